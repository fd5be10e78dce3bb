import unittest

from rootshares.errors import NoText, NoWeb
from rootshares.webtexts import read_trees, read_web, trees_text, web_text
from things import ALONE, APART, NO_WEBS, TALL, WEB, Prickly, chance_webs, keep, refused, some_webs

SMALL = (("a", "b", "c"), (("p", "a", "b"), ("q", "b", "c")))
SMALL_TEXT = "places a b c\ntie p a b\ntie q b c\n"
TREES = [("ab", "ac", "bd"), (), ("a", "bc")]
TREES_TEXT = "tree ab ac bd\ntree\ntree a bc\n"

# Webs whose names are the words of the text, or are as short or as long as names can be.
NAMED = [
    (("places", "tie", "tree"), (("places", "tie", "tree"), ("tie", "places", "tie"), ("tree", "tree", "places"))),
    (("places",), ()), (("tie",), ()), (("tree",), ()), (("place", "places"), (("tie", "places", "place"),)),
    (("abcdefgh", "zzzzzzzz"), (("aaaaaaaa", "zzzzzzzz", "abcdefgh"),)), (("a", "z"), (("z", "z", "a"),)),
]
NO_TEXTS = [
    None, True, False, 0, 1, -5, 10 ** 20, [], (), {}, set(), ["places a\n"], ("places a\n",), ["places a"],
    {"places": "a"}, b"places a\n", b"", b"tree\n", bytearray(b"tree\n"), object(), str, Prickly(), [Prickly()],
    (("a",), ()), WEB, [()], range(3), iter("tree\n"), NoText("tree\n"),
]
NO_WEB_TEXTS = [
    "", "\n", " ", "a", "places", "places a", "places\n", "places \n", "places  \n", "place a\n", "placesa\n", "a\n",
    "Places a\n", "PLACES a\n", "tie p a b\n", "tree a\n", "tie p a b\nplaces a b\n", "\nplaces a\n", " places a\n",
    "places a\n\n", "places a\n ", "places a\n \n", "places a \n", "places  a\n", "places a  b\n", "places\ta\n",
    "places a\r\n", "places a\tb\n", "places a\x0b", "places a\x0c\n", "places a\x85", "places a\u2028", "places a;\n",
    # names
    "places A\n", "places a B\n", "places a1\n", "places 1\n", "places a-b\n", "places abcdefghi\n", "places a,b\n",
    "places a_\n", "places \u00e4\n", "places a b\ntie P a b\n", "places a b\ntie abcdefghi a b\n",
    "places a b\ntie p1 a b\n", "places a b\ntie 1 a b\n", "places a b\ntie p A b\n", "places a b\ntie p a B\n",
    # twice, out of order
    "places a a\n", "places b a\n", "places a c b\n", "places a\nplaces a\n", "places a\nplaces b\n",
    "places a b\ntie p a b\ntie p a b\n", "places a b\ntie p a b\ntie p b a\n", "places a b\ntie q a b\ntie p a b\n",
    "places a b\ntie p a b\nplaces a b\n",
    # ties of other counts of words, from or to no place, from a place to itself
    "places a b\ntie\n", "places a b\ntie p\n", "places a b\ntie p a\n", "places a b\ntie p a b a\n",
    "places a b\ntie p p a b\n", "places a b\np a b\n", "places a b\ntie p a a\n", "places a b\ntie p a c\n",
    "places a b\ntie p c a\n", "places a b\ntree p a b\n", "places a b\nTie p a b\n", "places a b\nties p a b\n",
    "places a b\ntie tie p a b\n", "places a\ntie p a b\n",
    # blanks and line feeds
    "places a b\ntie p a b", "places a b\n\ntie p a b\n", "places a b\ntie p a b\n\n", "places a b\n tie p a b\n",
    "places a b\ntie  p a b\n", "places a b\ntie p  a b\n", "places a b\ntie p a  b\n", "places a b\ntie p a b \n",
    "places a b\ntie p a b\n ", "places a b tie p a b\n", "places a\nb\n", "places a b\ntie p a\nb\n", "tree\n",
    "places a b\ntie p a b\ntree p\n", "(('a',), ())", "places: a\n",
]
NO_TREE_TEXTS = [
    "\n", " ", " \n", "tree", "trees\n", "tre\n", "Tree\n", "TREE a\n", "tree \n", " tree\n", "tree  \n", "tree a",
    "tree a \n", "tree  a\n", "tree a  b\n", "tree\ta\n", "tree a\r\n", "tree\n\n", "\ntree\n", "tree\n\ntree\n",
    "tree\n ", "tree\ntree", "tree\n tree\n", "treea\n", "a\n", "tie p a b\n", "places a\n", "tree a\nplaces a\n",
    "tree b a\n", "tree a a\n", "tree a b b\n", "tree a c b\n", "tree A\n", "tree a B\n", "tree a1\n", "tree 1\n",
    "tree abcdefghi\n", "tree a-b\n", "tree a,b\n", "tree a\nb\n", "tree a\ntree b a\n", "tree a\ntree b", "[]", "()",
    "tree \u00e4\n", "tree ()\n", "tree a;\n", "tree b tree a\n", "tree tree\ntree tree tree\n", "tree a\x0b",
]


def other_texts(text):
    """All texts that have a sign more, less or other than a text."""
    signs = "ab pt\nZ1~"
    for at in range(len(text)):
        yield text[:at] + text[at + 1:]
        for sign in signs:
            if sign != text[at]:
                yield text[:at] + sign + text[at + 1:]
    for at in range(len(text) + 1):
        for sign in signs:
            yield text[:at] + sign + text[at:]


class WebText(unittest.TestCase):
    def test_written(self):
        self.assertEqual(web_text(SMALL), SMALL_TEXT)
        self.assertEqual(web_text(ALONE), "places a\n")
        self.assertEqual(web_text(APART), "places a b\n")
        self.assertEqual(web_text(NAMED[0]), (
            "places places tie tree\ntie places tie tree\ntie tie places tie\ntie tree tree places\n"))
        self.assertEqual(web_text(NAMED[5]), "places abcdefgh zzzzzzzz\ntie aaaaaaaa zzzzzzzz abcdefgh\n")

    def test_several_ties_between_two_places(self):
        web = (("a", "b"), (("a", "a", "b"), ("b", "a", "b"), ("c", "b", "a")))
        self.assertEqual(web_text(web), "places a b\ntie a a b\ntie b a b\ntie c b a\n")

    def test_no_web(self):
        for thing in NO_WEBS + [SMALL_TEXT, [SMALL]]:
            refused(self, NoWeb, web_text, thing)
        self.assertEqual(web_text(SMALL), SMALL_TEXT)


class ReadWeb(unittest.TestCase):
    def test_read(self):
        self.assertEqual(read_web(SMALL_TEXT), SMALL)
        self.assertEqual(read_web("places a\n"), ALONE)

    def test_what_is_written_is_read(self):
        for web in some_webs() + NAMED + [TALL] + chance_webs(8, 60, 8, 40):
            text = web_text(web)
            told = read_web(text)
            self.assertEqual(keep(told), keep(web))
            self.assertEqual(web_text(told), text)

    def test_no_texts(self):
        for at, thing in enumerate(NO_TEXTS):
            with self.subTest(at=at):
                refused(self, NoText, read_web, thing)

    def test_not_so_written(self):
        for text in NO_WEB_TEXTS:
            with self.subTest(text=text):
                refused(self, NoText, read_web, text)
                self.assertEqual(read_web(SMALL_TEXT), SMALL)

    def test_a_sign_more_less_or_other(self):
        read = 0
        for text in other_texts(SMALL_TEXT):
            try:
                web = read_web(text)
            except NoText:
                continue
            read += 1
            # What is read all the same is just the text of some other web.
            self.assertEqual(web_text(web), text)
            self.assertNotEqual(web, SMALL)
        self.assertGreater(read, 10)

    def test_lines_are_ended_by_line_feeds_alone(self):
        for end in ["\r", "\r\n", "\n\r", "\x0b", "\x0c", "\x1c", "\x85", "\u2028", "", " "]:
            refused(self, NoText, read_web, "places a b" + end + "tie p a b" + end)
            refused(self, NoText, read_web, "places a b\ntie p a b" + end)


class TreesText(unittest.TestCase):
    def test_written(self):
        self.assertEqual(trees_text(TREES), TREES_TEXT)

    def test_no_trees_and_a_tree_of_no_ties(self):
        self.assertEqual(trees_text([]), "")
        self.assertEqual(trees_text([()]), "tree\n")
        self.assertEqual(trees_text([(), ()]), "tree\ntree\n")

    def test_the_words_of_the_text_as_names(self):
        self.assertEqual(trees_text([("places", "tie", "tree"), ("tree",)]), "tree places tie tree\ntree tree\n")

    def test_the_list_stays(self):
        trees = list(TREES)
        text = trees_text(trees)
        self.assertEqual(trees, TREES)
        trees.append(("z",))
        self.assertEqual(trees_text(TREES), text)


class ReadTrees(unittest.TestCase):
    def test_read(self):
        self.assertEqual(read_trees(TREES_TEXT), TREES)
        self.assertEqual(read_trees("tree\n"), [()])
        self.assertEqual(read_trees("tree\ntree\n"), [(), ()])

    def test_of_no_trees(self):
        told = read_trees("")
        self.assertEqual(told, [])
        self.assertIsInstance(told, list)

    def test_what_is_written_is_read(self):
        lists = [
            [], [()], TREES, TREES + TREES, [("places",), ("tie", "tree")], [("tree",)], [("a",), ("a",)],
            [("a", "abcdefgh", "b"), ("z",), ()], [tuple("abcdefghijklmnopqrstuvwxyz")] * 6]
        for trees in lists:
            told = read_trees(trees_text(trees))
            self.assertEqual(keep(told), keep(trees))

    def test_a_told_list_is_the_askers_own(self):
        told = read_trees(TREES_TEXT)
        told.clear()
        self.assertEqual(read_trees(TREES_TEXT), TREES)
        told = read_trees("")
        told.append(("a",))
        self.assertEqual(read_trees(""), [])

    def test_no_texts(self):
        for at, thing in enumerate(NO_TEXTS):
            with self.subTest(at=at):
                refused(self, NoText, read_trees, thing)

    def test_not_so_written(self):
        for text in NO_TREE_TEXTS:
            with self.subTest(text=text):
                refused(self, NoText, read_trees, text)
                self.assertEqual(read_trees(TREES_TEXT), TREES)

    def test_a_sign_more_less_or_other(self):
        read = 0
        for text in other_texts("tree ab b\ntree\n"):
            try:
                trees = read_trees(text)
            except NoText:
                continue
            read += 1
            self.assertEqual(trees_text(trees), text)
            self.assertNotEqual(trees, [("ab", "b"), ()])
        self.assertGreater(read, 10)


if __name__ == "__main__":
    unittest.main()
