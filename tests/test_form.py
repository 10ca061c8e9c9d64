"""The form of the package's files, as far as a simple look can tell: sizes, signs, names, what they may not use."""

import ast
import builtins
import pathlib
import unittest

import wobblesnap

FOLDER = pathlib.Path(wobblesnap.__file__).parent
BARRED_NODES = (ast.AsyncFunctionDef, ast.AsyncFor, ast.AsyncWith, ast.Await, ast.Import, ast.TryStar, ast.Div)
BARRED_NAMES = {
    "open", "input", "eval", "exec", "compile", "vars", "globals", "locals", "print", "round", "float", "filter",
    "hash", "id", "sys", "os", "register", "mro", "law", "elements", "frozenset", "chr",
}
# Words that stand nowhere in a file but in comments and docstrings, and marks that some names may not begin with.
BARRED_WORDS = ("type", "typing", "enum", "Enum", "Generic", "Protocol", "ABC", "namedtuple", "NamedTuple", "TypedDict")
DECORATORS = {"property", "staticmethod", "classmethod"}
LIBRARY = {"heapq", "math", "itertools", "collections"}


def files():
    """Each file of the package, with its text."""
    return [(path, path.read_text(encoding="utf-8")) for path in sorted(FOLDER.rglob("*.py"))]


def nodes_of(path, text):
    """Each node of a file's code."""
    return list(ast.walk(ast.parse(text, str(path))))


class Form(unittest.TestCase):

    def test_the_folder_contains_nothing_else(self):
        found = [path for path in FOLDER.rglob("*") if "__pycache__" not in path.parts]
        self.assertEqual([path for path in found if path.suffix != ".py"], [])

    def test_signs_and_sizes(self):
        for path, text in files():
            with self.subTest(path.name):
                self.assertTrue(all(sign == "\n" or " " <= sign <= "~" for sign in text))
                self.assertLessEqual(text.count("\n"), 399)
                self.assertLessEqual(max(map(len, text.split("\n"))), 120)

    def test_functions_are_small(self):
        for path, text in files():
            for node in nodes_of(path, text):
                if isinstance(node, ast.FunctionDef):
                    with self.subTest(path.name, function=node.name):
                        self.assertLessEqual(node.end_lineno - node.lineno + 1, 40)

    def test_imports_are_of_the_package(self):
        for path, text in files():
            for node in nodes_of(path, text):
                if isinstance(node, ast.ImportFrom):
                    with self.subTest(path.name, line=node.lineno):
                        self.assertEqual(node.level, 0)
                        self.assertIn(node.module.split(".")[0], LIBRARY | {"wobblesnap"})
                        self.assertTrue(all(alias.name != "*" and alias.asname is None for alias in node.names))

    def test_words_that_are_barred(self):
        for path, text in files():
            with self.subTest(path.name):
                self.assertNotIn("_wall", text)
                self.assertNotIn("metaclass", text)
            for node in nodes_of(path, text):
                name = getattr(node, "id", None) or getattr(node, "attr", None) or getattr(node, "name", None)
                if isinstance(name, str):
                    with self.subTest(path.name, name=name):
                        self.assertNotIn(name, BARRED_WORDS)

    def test_all_and_any_take_lists(self):
        for path, text in files():
            for node in nodes_of(path, text):
                with self.subTest(path.name, line=getattr(node, "lineno", 0)):
                    self.assertNotIsInstance(node, ast.GeneratorExp)

    def test_no_two_files_import_from_each_other(self):
        imports = {}
        for path, text in files():
            found = [node.module for node in nodes_of(path, text) if isinstance(node, ast.ImportFrom)]
            imports["wobblesnap." + path.stem] = found
        done = set()
        while len(done) < len(imports):
            ready = [name for name in imports if name not in done and set(imports[name]) & set(imports) <= done]
            self.assertNotEqual(ready, [], "these import from each other")
            done.update(ready)

    def test_what_is_not_used(self):
        for path, text in files():
            for node in nodes_of(path, text):
                with self.subTest(path.name, line=getattr(node, "lineno", 0)):
                    self.assertNotIsInstance(node, BARRED_NODES)
                    if isinstance(node, ast.Name):
                        self.assertNotIn(node.id, BARRED_NAMES)
                    if isinstance(node, ast.Constant):
                        self.assertNotIsInstance(node.value, (float, complex))
                    if isinstance(node, (ast.FunctionDef, ast.ClassDef)):
                        told = [ast.unparse(row) for row in node.decorator_list]
                        self.assertTrue(all(row in DECORATORS or row.endswith(".setter") for row in told))

    def test_no_name_is_bound_again_that_means_something_else(self):
        for path, text in files():
            tree = ast.parse(text, str(path))
            taken = set(dir(builtins)) | {row.name for row in tree.body if isinstance(row, ast.ClassDef)}
            for row in tree.body:
                if isinstance(row, ast.ImportFrom):
                    taken |= {alias.name for alias in row.names}
            for node in ast.walk(tree):
                if isinstance(node, (ast.FunctionDef, ast.Lambda)):
                    names = {arg.arg for arg in node.args.args + node.args.kwonlyargs}
                    names |= {name.id for name in ast.walk(node) if is_bound(name)}
                    with self.subTest(path.name, line=node.lineno):
                        self.assertEqual(names & taken, set())

    def test_no_name_is_imported_in_vain(self):
        for path, text in files():
            nodes = nodes_of(path, text)
            used = {node.id for node in nodes if isinstance(node, ast.Name)}
            for node in nodes:
                if isinstance(node, ast.ImportFrom):
                    with self.subTest(path.name, line=node.lineno):
                        self.assertEqual({alias.name for alias in node.names} - used, set())

    def test_no_name_is_a_method_and_an_attribute(self):
        methods, attributes = set(), set()
        for path, text in files():
            for node in nodes_of(path, text):
                if isinstance(node, ast.ClassDef):
                    methods |= {row.name for row in node.body if isinstance(row, ast.FunctionDef)}
                if isinstance(node, ast.Attribute) and isinstance(node.ctx, ast.Store):
                    attributes.add(node.attr)
        self.assertEqual(methods & attributes, set())
        self.assertIn("click", methods)
        self.assertIn("journal", attributes)

    def test_what_leaving_a_block_does(self):
        found = [(path, node) for path, text in files() for node in nodes_of(path, text)
                 if isinstance(node, ast.FunctionDef) and node.name == "__exit__"]
        self.assertEqual([path.name for path, _ in found], ["boards.py"])
        for path, node in found:
            told = [arg.arg for arg in node.args.args]
            self.assertEqual(told, ["self", "kind", "value", "trace"])
            for row in node.body:
                with self.subTest(path.name, line=row.lineno):
                    self.assertTrue(is_row_of_leaving(row))

    def test_what_may_not_be_done_where_a_block_is_left(self):
        for text in ("if kind is not None or board.before.kept is None:\n    board.done = 0",
                     "if not (self.kept is not None and kind is None):\n    self.rows = ()\nelse:\n    return False",
                     "board = self.board", "board.deeds = board.before.deeds", "return", "pass"):
            self.assertTrue(is_row_of_leaving(ast.parse(text).body[0]), text)
        for text in ("if kind is not None or not board.before.kept:\n    board.done = 0",
                     "if board.before.kept:\n    pass", "if kind:\n    pass", "if kind is KeyError:\n    pass",
                     "if value is None:\n    pass", "if board.before.kept is True:\n    pass",
                     "if board.done == 0:\n    pass", "if kind is None is None:\n    pass",
                     "if None is kind:\n    pass", "if len(board) is None:\n    pass", "return 0",
                     "if self.kept is None:\n    board.take_back()", "board.take_back()", "self.error = value",
                     "self.error = kind", "board.deeds = board.deeds[1:]", "board.done = -1", "board = self.held.board",
                     "board = trial.board", "return True", "for deed in board.deeds:\n    pass"):
            self.assertFalse(is_row_of_leaving(ast.parse(text).body[0]), text)


HANDED = ("kind", "value", "trace")


def is_row_of_leaving(row):
    """Whether a row may stand in `__exit__` by L6 With; of what is allowed there, only what this package needs."""
    if isinstance(row, ast.If):
        return asks_for_none(row.test) and all(map(is_row_of_leaving, row.body + row.orelse))
    if isinstance(row, ast.Return):
        return row.value is None or isinstance(row.value, ast.Constant) and (
            row.value.value is None or row.value.value is False)
    if isinstance(row, ast.Assign) and isinstance(row.targets[0], ast.Name):
        return len(row.targets) == 1 and isinstance(row.value, ast.Attribute) and (
            isinstance(row.value.value, ast.Name) and row.value.value.id == "self")
    if isinstance(row, ast.Assign):
        return all([is_attribute(target) for target in row.targets]) and is_plain(row.value)
    return isinstance(row, ast.Pass)


def asks_for_none(test):
    """Whether a test asks by `is None`, and by `and`, `or`, `not` of this, alone.

    Truth and == of an attribute may lead into a class of the package that has `__len__` or `__eq__`.
    """
    if isinstance(test, ast.BoolOp):
        return all(map(asks_for_none, test.values))
    if isinstance(test, ast.UnaryOp):
        return isinstance(test.op, ast.Not) and asks_for_none(test.operand)
    if not isinstance(test, ast.Compare) or len(test.ops) != 1 or not isinstance(test.ops[0], (ast.Is, ast.IsNot)):
        return False
    asked, beside = test.left, test.comparators[0]
    if not isinstance(beside, ast.Constant) or beside.value is not None:
        return False
    return isinstance(asked, ast.Name) and asked.id == "kind" or (
        is_plain(asked) and isinstance(asked, (ast.Name, ast.Attribute)))


def is_plain(node):
    """Whether a node is an attribute, a name, a written value or a tuple of such, and nothing that is handed in."""
    if isinstance(node, ast.Tuple):
        return all(map(is_plain, node.elts))
    if isinstance(node, ast.Name):
        return node.id not in HANDED
    return isinstance(node, ast.Constant) or is_attribute(node)


def is_attribute(node):
    """Whether a node is an attribute of a name, or of such an attribute, and of nothing that is handed in."""
    return isinstance(node, ast.Attribute) and (
        isinstance(node.value, ast.Name) and node.value.id not in HANDED or is_attribute(node.value))


def is_bound(node):
    """Whether a node is a name that is bound here."""
    return isinstance(node, ast.Name) and isinstance(node.ctx, ast.Store)
