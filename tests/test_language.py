"""Those of the rules L1 to L28 for the package's files that can be told from the text alone."""

import ast
import builtins
import pathlib
import re
import unittest
import warnings

PACKAGE = pathlib.Path(__file__).resolve().parent.parent / "enoughheard"
FILES = sorted(PACKAGE.rglob("*.py"))
BARRED = re.compile(r"\b(typing|typing_extensions|enum|Enum|IntEnum|StrEnum|Flag|IntFlag|Generic"
                    r"|Protocol|ABC|ABCMeta|namedtuple|NamedTuple|TypedDict|TYPE_CHECKING"
                    r"|abstractmethod)\b|dataclass|overload|contextmanager|_wall|_WallAttr")
STATEMENTS = (ast.FunctionDef, ast.ClassDef, ast.ImportFrom, ast.Assign, ast.AnnAssign)
FORBIDDEN = (ast.AsyncFunctionDef, ast.AsyncFor, ast.AsyncWith, ast.Await, ast.Import, ast.Div)
BUILTINS = frozenset(
    "len range enumerate zip min max sum abs sorted reversed int str bool bytes list tuple dict set "
    "isinstance ord repr any all divmod pow getattr hasattr setattr iter next map type super "
    "property staticmethod classmethod Exception ValueError TypeError KeyError IndexError "
    "LookupError ZeroDivisionError ArithmeticError OverflowError RuntimeError "
    "NotImplementedError AttributeError StopIteration NotImplemented".split())
LIBRARY = frozenset(("heapq", "math", "itertools", "collections", "__future__"))


def is_docstring(node):
    return isinstance(node, ast.Expr) and isinstance(node.value, ast.Constant) \
        and isinstance(node.value.value, str)


def without_docstrings(tree):
    for node in ast.walk(tree):
        if isinstance(node, (ast.Module, ast.ClassDef, ast.FunctionDef)):
            node.body = [row for row in node.body if not is_docstring(row)] or [ast.Pass()]
    return ast.unparse(tree)


def each_file():
    for path in FILES:
        text = path.read_bytes().decode("utf-8")
        yield path.name, text, ast.parse(text)


class Language(unittest.TestCase):
    def test_the_folder_holds_plain_files_alone(self):
        self.assertTrue(FILES)
        for path in PACKAGE.rglob("*"):
            # What Python writes by itself is not part of a checkout.
            if "__pycache__" in path.parts:
                continue
            if path.is_dir():
                self.assertTrue((path / "__init__.py").exists(), path)
            else:
                self.assertRegex(path.name, r"^[a-z0-9_]+\.py$")

    def test_sizes_and_characters(self):
        for name, text, tree in each_file():
            rows = text.splitlines()
            self.assertLessEqual(len(rows), 399, name)
            self.assertLessEqual(max(len(row) for row in rows), 120, name)
            self.assertRegex(text, r"\A[ -~\n]*\Z", name)
            for node in ast.walk(tree):
                if isinstance(node, ast.FunctionDef):
                    self.assertLessEqual(node.end_lineno - node.lineno + 1, 40, node.name)

    def test_no_warnings(self):
        for name, text, _ in each_file():
            with warnings.catch_warnings():
                warnings.simplefilter("error")
                compile(text, name, "exec")

    def test_imports_name_the_file_that_defines_the_name(self):
        for name, _, tree in each_file():
            for node in ast.walk(tree):
                if isinstance(node, ast.ImportFrom) and node.module not in LIBRARY:
                    self.assertEqual(node.level, 0, name)
                    self.assertEqual(node.module.split(".")[0], PACKAGE.name, name)
                    file = PACKAGE.parent.joinpath(*node.module.split(".")).with_suffix(".py")
                    rows = ast.parse(file.read_text()).body
                    defined = [getattr(row, "name", None) for row in rows]
                    defined += [row.targets[0].id for row in rows if isinstance(row, ast.Assign)]
                    for alias in node.names:
                        self.assertIn(alias.name, defined, name)

    def test_no_two_files_import_from_each_other(self):
        asks = {name: {node.module.split(".")[-1] + ".py" for node in tree.body
                       if isinstance(node, ast.ImportFrom) and node.module not in LIBRARY}
                for name, _, tree in each_file()}
        while asks:
            free = [name for name in asks if not asks[name] & set(asks)]
            self.assertTrue(free, sorted(asks))
            for name in free:
                del asks[name]

    def test_what_is_barred_beside_a_class_with_operators(self):
        for name, _, tree in each_file():
            for node in ast.walk(tree):
                self.assertNotIsInstance(node, ast.GeneratorExp, name)
                if isinstance(node, ast.AugAssign):
                    self.assertIsInstance(node.target, ast.Name, name)
                    self.assertIsInstance(node.value, ast.Constant, name)
                    self.assertIs(type(node.value.value), int, name)
                if isinstance(node, ast.Call) and isinstance(node.func, ast.Attribute):
                    self.assertNotEqual(node.func.attr, "sort", name)

    def test_no_name_is_a_method_and_an_attribute(self):
        methods, attributes = set(), set()
        for _, _, tree in each_file():
            for node in ast.walk(tree):
                if isinstance(node, ast.ClassDef):
                    methods |= {row.name for row in node.body if isinstance(row, ast.FunctionDef)}
                if isinstance(node, ast.Attribute) and isinstance(node.ctx, ast.Store):
                    attributes.add(node.attr)
        self.assertEqual(methods & attributes, set())

    def test_the_interfaces_generator_is_the_only_one(self):
        found = [node.name for _, _, tree in each_file() for node in ast.walk(tree)
                 if isinstance(node, ast.FunctionDef)
                 and any(isinstance(part, (ast.Yield, ast.YieldFrom)) for part in ast.walk(node))]
        self.assertEqual(found, ["choices"])
        for name, _, tree in each_file():
            for node in ast.walk(tree):
                if isinstance(node, ast.Name) and not isinstance(node.ctx, ast.Load):
                    self.assertNotEqual(node.id, "choices", name)

    def test_statements_and_values(self):
        for name, _, tree in each_file():
            for node in tree.body:
                self.assertTrue(is_docstring(node) or isinstance(node, STATEMENTS), name)
            for node in ast.walk(tree):
                self.assertNotIsInstance(node, FORBIDDEN, name)
                if isinstance(node, ast.Constant):
                    self.assertNotIsInstance(node.value, (float, complex), name)

    def test_builtins(self):
        # doctest leaves what it evaluated last in builtins as _.
        every = set(dir(builtins)) - {"_"}
        for name, _, tree in each_file():
            for node in ast.walk(tree):
                if isinstance(node, ast.Name) and node.id in every:
                    self.assertIn(node.id, BUILTINS, name)
                    self.assertIsInstance(node.ctx, ast.Load, name)
                if isinstance(node, ast.arg):
                    self.assertNotIn(node.arg, every, name)

    def test_no_variable_has_the_name_of_an_import_or_a_class(self):
        for name, _, tree in each_file():
            taken = {alias.name for node in tree.body if isinstance(node, ast.ImportFrom)
                     for alias in node.names}
            taken |= {node.name for node in tree.body if isinstance(node, ast.ClassDef)}
            for node in ast.walk(tree):
                if isinstance(node, ast.Name) and not isinstance(node.ctx, ast.Load):
                    self.assertNotIn(node.id, taken, name)
                if isinstance(node, ast.arg):
                    self.assertNotIn(node.arg, taken, name)

    def test_attributes_have_names_of_their_own(self):
        barred = ("items keys values pop update append clear extend insert remove reverse "
                  "setdefault sort args encode decode hex fromhex format").split()
        for name, _, tree in each_file():
            for node in ast.walk(tree):
                if isinstance(node, ast.Attribute) and isinstance(node.ctx, ast.Store):
                    self.assertNotIn(node.attr, barred, name)

    def test_barred_words(self):
        for name, _, tree in each_file():
            self.assertNotRegex(without_docstrings(tree), BARRED, name)


if __name__ == "__main__":
    unittest.main()
