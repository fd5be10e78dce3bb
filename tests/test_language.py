"""Some rules of ../shared/LANGUAGE.md, held against the package's files. Not all: L19 and part of L18 are for the eye."""

import ast
import builtins
import os
import re
import unittest

PACKAGE = os.path.join(os.path.dirname(os.path.abspath(__file__)), "..", "rootshares")
OWN_OF_PYTHON = set("""len range enumerate zip min max sum abs sorted reversed int str bool bytes list tuple dict set
    frozenset isinstance ord repr any all divmod Exception ValueError TypeError KeyError IndexError LookupError
    ZeroDivisionError ArithmeticError OverflowError RuntimeError NotImplementedError AttributeError
    StopIteration""".split())
UNDERSCORED = {"__init__", "__eq__", "__repr__", "__str__", "__len__"}
METHODS = set("""append clear copy count endswith extend find get index insert isalnum isalpha isdigit islower isspace
    isupper items join keys ljust lower lstrip partition pop remove replace reverse rfind rjust rpartition rsplit
    rstrip setdefault split splitlines startswith strip update upper values zfill bit_length sort add discard""".split())
NO_WORDS = re.compile(r"\b(type|typing|typing_extensions|enum|Enum|IntEnum|StrEnum|Flag|IntFlag|Generic|Protocol|ABC|"
                      r"ABCMeta|namedtuple|NamedTuple|TypedDict|TYPE_CHECKING|abstractmethod)\b|"
                      r"dataclass|overload|contextmanager")
NO_NODES = (ast.With, ast.Match, ast.Global, ast.Nonlocal, ast.Yield, ast.YieldFrom, ast.Await, ast.AsyncFunctionDef,
            ast.GeneratorExp, ast.NamedExpr, ast.Div, ast.Import, ast.MatMult)


def files():
    found = {}
    for name in sorted(os.listdir(PACKAGE)):
        if name != "__pycache__":
            with open(os.path.join(PACKAGE, name), encoding="utf-8") as file:
                found[name] = file.read()
    return found


def nodes(kind):
    for name, text in files().items():
        for node in ast.walk(ast.parse(text)):
            if isinstance(node, kind):
                yield name, node


def kept_nodes(kind):
    """The nodes of one kind, each file read once, so that a node is the same thing when it is met again."""
    return [node for tree in TREES for node in ast.walk(tree) if isinstance(node, kind)]


def parents(kind):
    """The nodes of one kind, each with the node in which it stands."""
    for tree in TREES:
        for parent in ast.walk(tree):
            for node in ast.iter_child_nodes(parent):
                if isinstance(node, kind):
                    yield parent, node


TREES = [ast.parse(text) for text in files().values()]


class Language(unittest.TestCase):
    def test_files(self):
        self.assertIn("__init__.py", files())
        for name, text in files().items():
            self.assertRegex(name, r"^([a-z][a-z0-9_]*|__init__|__main__)\.py$")
            self.assertRegex(text, r"^[ -~\n]*$")
            self.assertIsNone(NO_WORDS.search(text), name)

    def test_sizes(self):
        for name, text in files().items():
            lines = text.split("\n")
            self.assertLessEqual(len(lines), 400, name)
            self.assertLessEqual(max([len(line) for line in lines]), 120, name)
        for name, node in nodes(ast.FunctionDef):
            self.assertLessEqual(node.end_lineno - node.lineno + 1, 40, (name, node.name))

    def test_no_other_forms(self):
        for name, node in nodes(NO_NODES):
            self.fail((name, node.lineno, node.__class__.__name__))
        for name, node in nodes((ast.FunctionDef, ast.ClassDef)):
            self.assertEqual(node.decorator_list, [], (name, node.name))
        for name, node in nodes((ast.For, ast.While)):
            self.assertEqual(node.orelse, [], (name, node.lineno))
        for name, node in nodes(ast.arguments):
            self.assertEqual((node.vararg, node.kwarg, node.posonlyargs), (None, None, []), name)

    def test_imports_are_the_packages_own(self):
        defined = {}
        for name, text in files().items():
            defined["rootshares." + name[:-3]] = [
                one.name if not isinstance(one, ast.Assign) else one.targets[0].id
                for one in ast.parse(text).body if isinstance(one, (ast.FunctionDef, ast.ClassDef, ast.Assign))]
        for name, node in nodes(ast.ImportFrom):
            self.assertEqual(node.level, 0, name)
            for alias in node.names:
                self.assertIn(alias.name, defined[node.module], name)

    def test_names(self):
        for name, node in nodes(ast.Name):
            self.assertFalse(node.id.startswith("_"), (name, node.id))
            if node.id in dir(builtins):
                self.assertIn(node.id, OWN_OF_PYTHON, (name, node.lineno))
                self.assertIsInstance(node.ctx, ast.Load, (name, node.lineno))
        for name, node in nodes(ast.arg):
            self.assertFalse(node.arg in dir(builtins) or node.arg.startswith("_"), (name, node.arg))
        for name, node in nodes(ast.FunctionDef):
            self.assertTrue(node.name in UNDERSCORED or not node.name.startswith("_"), (name, node.name))

    def test_each_name_means_one_thing(self):
        for name, text in files().items():
            top = ast.parse(text).body
            bound = [alias.name for node in top if isinstance(node, ast.ImportFrom) for alias in node.names]
            bound += [node.name for node in top if isinstance(node, (ast.FunctionDef, ast.ClassDef))]
            bound += [node.targets[0].id for node in top if isinstance(node, ast.Assign)]
            self.assertEqual(len(bound), len(set(bound)), name)
            for node in ast.walk(ast.parse(text)):
                if isinstance(node, ast.FunctionDef):
                    within = [one.arg for one in ast.walk(node) if isinstance(one, ast.arg)]
                    within += [one.id for one in ast.walk(node)
                               if isinstance(one, ast.Name) and isinstance(one.ctx, ast.Store)]
                    self.assertEqual([one for one in within if one in bound], [], (name, node.name))

    def test_no_file_is_drawn_from_in_a_ring(self):
        drawn = {"rootshares." + name[:-3]: [] for name in files()}
        for name, node in nodes(ast.ImportFrom):
            drawn["rootshares." + name[:-3]].append(node.module)
        while drawn:
            free = [name for name in drawn if not [other for other in drawn[name] if other in drawn]]
            self.assertNotEqual(free, [], sorted(drawn))
            for name in free:
                del drawn[name]

    def test_methods(self):
        own = set([node.name for name, node in nodes(ast.FunctionDef)])
        for name, node in nodes(ast.Call):
            if isinstance(node.func, ast.Attribute):
                self.assertIn(node.func.attr, METHODS | own, (name, node.lineno))

    def test_no_name_is_a_method_and_a_value(self):
        methods = set()
        for name, node in nodes(ast.ClassDef):
            methods.update([one.name for one in node.body if isinstance(one, ast.FunctionDef)])
        given = [node.attr for name, node in nodes(ast.Attribute) if isinstance(node.ctx, ast.Store)]
        self.assertEqual([one for one in given if one in methods or one in METHODS], [])
        called = [id(node.func) for node in kept_nodes(ast.Call)]
        for node in kept_nodes(ast.Attribute):
            if id(node) not in called:
                self.assertIn(node.attr, given, node.lineno)

    def test_what_is_walked_is_not_kept(self):
        for parent, node in parents(ast.Call):
            if isinstance(node.func, ast.Name) and node.func.id in ("zip", "enumerate", "reversed", "range"):
                self.assertIsInstance(parent, (ast.For, ast.comprehension, ast.Call), node.lineno)
            if isinstance(node.func, ast.Attribute) and node.func.attr in ("items", "keys", "values"):
                self.assertIsInstance(parent, (ast.For, ast.comprehension, ast.Call), node.lineno)

    def test_sets_are_sorted_or_measured_on_the_spot(self):
        found = [(parent, node) for parent, node in parents((ast.Set, ast.SetComp))]
        found += [(parent, node) for parent, node in parents(ast.Call)
                  if isinstance(node.func, ast.Name) and node.func.id in ("set", "frozenset")]
        for parent, node in found:
            self.assertIsInstance(parent, ast.Call, node.lineno)
            self.assertIn(parent.func.id, ("sorted", "len"), node.lineno)

    def test_is_stands_beside_none_true_false(self):
        for name, node in nodes(ast.Compare):
            for sign, right in zip(node.ops, node.comparators):
                if isinstance(sign, (ast.Is, ast.IsNot)):
                    self.assertIsInstance(right, ast.Constant, (name, node.lineno))
                    self.assertIn(repr(right.value), ["None", "True", "False"], (name, node.lineno))

    def test_errors_are_taken_by_name(self):
        for name, node in nodes(ast.ExceptHandler):
            self.assertIsNotNone(node.type, (name, node.lineno))
            taken = node.type.elts if isinstance(node.type, ast.Tuple) else [node.type]
            for one in taken:
                self.assertNotIn(one.id, ["Exception", "TypeError"], (name, node.lineno))


if __name__ == "__main__":
    unittest.main()
