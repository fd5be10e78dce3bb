"""The texts of webs and of lists of trees, written and read."""

from rootshares.errors import NoText
from rootshares.webs import is_sorted_names, is_web, need_web


def line_of(word, names):
    """A line: a word and some names, a blank ahead of each."""
    return " ".join([word] + list(names)) + "\n"


def lines_in(text):
    """The words of each line of a text, parted at each single blank."""
    if not isinstance(text, str):
        raise NoText("this is no text")
    lines = text.split("\n")
    if lines[-1] != "":
        raise NoText("the last line has no end")
    return [line.split(" ") for line in lines[:-1]]


def names_behind(word, words):
    """The words of a line behind its first one, which is to be that word."""
    if words[0] != word:
        raise NoText("a line does not begin with " + word)
    return tuple(words[1:])


def web_text(web):
    """The text of a web."""
    need_web(web)
    places, rows = web
    return line_of("places", places) + "".join([line_of("tie", row) for row in rows])


def read_web(text):
    """The web of a text."""
    lines = lines_in(text)
    if len(lines) == 0:
        raise NoText("there is no line of places")
    places = names_behind("places", lines[0])
    rows = [names_behind("tie", words) for words in lines[1:]]
    web = (places, tuple(rows))
    if not is_web(web):
        raise NoText("this is no text of a web")
    return web


def trees_text(trees):
    """The text of a list of trees."""
    return "".join([line_of("tree", tree) for tree in trees])


def read_trees(text):
    """The list of trees of a text."""
    trees = [names_behind("tree", words) for words in lines_in(text)]
    if not all([is_sorted_names(tree) for tree in trees]):
        raise NoText("this is no text of trees")
    return trees
