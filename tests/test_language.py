"""The rules of LANGUAGE.md that can be seen by a short look at the files of the package."""

import ast
import builtins
import pathlib
import re
import unittest

FOLDER = pathlib.Path(__file__).resolve().parent.parent / "fairposts"
ALLOWED = set("""
    len range enumerate zip min max sum abs sorted reversed int str bool list tuple dict set isinstance ord repr any all
    divmod iter next super property staticmethod classmethod Exception ValueError TypeError KeyError IndexError
    LookupError ZeroDivisionError ArithmeticError OverflowError RuntimeError NotImplementedError AttributeError
    StopIteration NotImplemented
""".split())
BARRED_WORDS = set("""
    type typing typing_extensions enum Enum IntEnum StrEnum Flag IntFlag Generic Protocol ABC ABCMeta namedtuple
    NamedTuple TypedDict TYPE_CHECKING abstractmethod dataclass overload contextmanager
""".split())
BARRED_NAMES = set("""
    register mro elements open input version_info with_traceback add_note
    attrgetter breakpoint builtins compile copyright credits delattr dir eval exec exit gc getattr globals hasattr help
    id importlib license locals methodcaller os quit setattr vars sys
""".split())
STATEMENTS = (
    ast.Assign, ast.AugAssign, ast.AnnAssign, ast.If, ast.While, ast.For, ast.Return, ast.Break, ast.Continue, ast.Pass,
    ast.Raise, ast.Assert, ast.Delete, ast.Nonlocal, ast.Match, ast.With, ast.Try, ast.Expr, ast.FunctionDef,
    ast.ClassDef, ast.ImportFrom,
)


def files():
    return sorted(path for path in FOLDER.rglob("*") if path.is_file() and "__pycache__" not in path.parts)


def trees():
    for path in files():
        yield path, ast.parse(path.read_text("ascii"))


def bound_names(tree):
    """All names that a file gives a meaning of its own to."""
    for node in ast.walk(tree):
        if isinstance(node, ast.Name) and isinstance(node.ctx, ast.Store):
            yield node.id
        elif isinstance(node, ast.arg):
            yield node.arg
        elif isinstance(node, (ast.FunctionDef, ast.ClassDef)):
            yield node.name
        elif isinstance(node, ast.alias):
            yield node.asname or node.name


def all_names(tree):
    """All names that a file has, read or given a meaning, attributes and keywords too."""
    yield from bound_names(tree)
    for node in ast.walk(tree):
        if isinstance(node, ast.Name):
            yield node.id
        elif isinstance(node, ast.Attribute):
            yield node.attr
        elif isinstance(node, ast.keyword):
            yield node.arg


def module_names(tree):
    """The names that a file defines itself, at module level."""
    for node in tree.body:
        if isinstance(node, (ast.FunctionDef, ast.ClassDef)):
            yield node.name
        elif isinstance(node, ast.Assign):
            yield from (target.id for target in node.targets)


class Language(unittest.TestCase):
    def test_files(self):
        self.assertIn("__init__.py", [path.name for path in files()])
        for path in files():
            self.assertRegex(path.name, r"\A([a-z][a-z0-9_]*|__init__|__main__)\.py\Z")

    def test_signs_and_sizes(self):
        for path in files():
            lines = path.read_text("ascii").split("\n")
            self.assertLessEqual(len(lines), 400, path)
            for line in lines:
                self.assertRegex(line, r"\A[ -~]{0,120}\Z", path)

    def test_functions_are_short(self):
        for path, tree in trees():
            for node in ast.walk(tree):
                if isinstance(node, ast.FunctionDef):
                    self.assertLessEqual(node.end_lineno - node.lineno, 39, (path, node.name))

    def test_imports(self):
        for path, tree in trees():
            for node in ast.walk(tree):
                self.assertNotIsInstance(node, ast.Import)
                if isinstance(node, ast.ImportFrom):
                    self.assertIn(node, tree.body)
                    self.assertRegex(node.module, r"\Afairposts\.[a-z]+\Z")
                    self.assertEqual(node.level, 0)

    def test_statements(self):
        for path, tree in trees():
            for node in ast.walk(tree):
                if isinstance(node, ast.stmt):
                    self.assertIsInstance(node, STATEMENTS, (path, node.lineno))

    def test_no_barred_words(self):
        for path in files():
            words = set(re.findall(r"\w+", path.read_text("ascii")))
            self.assertEqual(words & BARRED_WORDS, set(), path)

    def test_no_barred_names(self):
        for path, tree in trees():
            self.assertEqual(set(all_names(tree)) & BARRED_NAMES, set(), path)

    def test_names(self):
        for path, tree in trees():
            for name in bound_names(tree):
                self.assertRegex(name, r"\A([A-Za-z]\w*|__\w+__)\Z", path)
                self.assertNotIn(name, dir(builtins), path)

    def test_builtins(self):
        for path, tree in trees():
            known = set(bound_names(tree)) | ALLOWED
            for node in ast.walk(tree):
                if isinstance(node, ast.Name) and isinstance(node.ctx, ast.Load):
                    self.assertIn(node.id, known, (path, node.lineno))

    def test_numbers_and_signs(self):
        for path, tree in trees():
            for node in ast.walk(tree):
                self.assertNotIsInstance(node, (ast.Div, ast.MatMult, ast.Await), path)
                if isinstance(node, ast.Constant):
                    self.assertNotIsInstance(node.value, (float, complex), path)
                    self.assertFalse(isinstance(node.value, str) and "%" in node.value, path)
                if isinstance(node, ast.BinOp) and isinstance(node.op, ast.Pow):
                    self.assertIsInstance(node.right, ast.Constant, path)
                if isinstance(node, ast.Compare) and any(isinstance(op, (ast.Is, ast.IsNot)) for op in node.ops):
                    self.assertTrue(all(isinstance(side, ast.Constant) for side in node.comparators), path)

    def test_no_two_files_import_from_each_other(self):
        names = {}
        for path, tree in trees():
            names[path.stem] = [node.module.split(".")[1] for node in tree.body if isinstance(node, ast.ImportFrom)]
        while names:
            free = [name for name in names if not set(names[name]) & set(names)]
            self.assertTrue(free, names)
            names = {name: names[name] for name in names if name not in free}

    def test_names_are_imported_from_where_they_are_defined(self):
        defined = {path.stem: set(module_names(tree)) for path, tree in trees()}
        for path, tree in trees():
            imported = [(node.module.split(".")[1], alias) for node in tree.body if isinstance(node, ast.ImportFrom)
                        for alias in node.names]
            for module, alias in imported:
                self.assertIsNone(alias.asname)
                self.assertIn(alias.name, defined[module], path)
            words = re.findall(r"\w+", path.read_text("ascii"))
            for module, alias in imported:
                self.assertGreater(words.count(alias.name), 1, (path, alias.name))

    def test_no_local_name_is_an_imported_one_or_a_class(self):
        for path, tree in trees():
            barred = {alias.name for node in tree.body if isinstance(node, ast.ImportFrom) for alias in node.names}
            barred |= {node.name for node in tree.body if isinstance(node, ast.ClassDef)}
            for node in ast.walk(tree):
                if isinstance(node, ast.FunctionDef):
                    self.assertEqual(set(bound_names(node)) & barred, set(), (path, node.name))

    def test_no_method_has_the_name_of_an_attribute(self):
        methods, attributes = set(), set()
        for path, tree in trees():
            for node in ast.walk(tree):
                if isinstance(node, ast.ClassDef):
                    methods |= {inner.name for inner in node.body if isinstance(inner, ast.FunctionDef)}
                if isinstance(node, ast.Attribute) and isinstance(node.ctx, ast.Store):
                    attributes.add(node.attr)
        self.assertEqual(methods & attributes, set())

    def test_double_underscore_methods_only_return(self):
        for path, tree in trees():
            for node in ast.walk(tree):
                if isinstance(node, ast.FunctionDef) and node.name in ("__eq__", "__str__", "__len__", "__repr__"):
                    self.assertIsInstance(node.body[-1], ast.Return, (path, node.name))
                    for inner in node.body[:-1]:
                        self.assertIsInstance(inner, ast.Expr, (path, node.name))

    def test_methods_and_attributes_are_no_builtin_values(self):
        taken = {name for value in ("", 0, [], {}, set(), b"") for name in dir(value) if not name.startswith("__")}
        for path, tree in trees():
            for node in ast.walk(tree):
                if isinstance(node, ast.ClassDef):
                    names = {inner.name for inner in node.body if isinstance(inner, ast.FunctionDef)}
                    self.assertLessEqual(names & taken, {"join"}, path)
                if isinstance(node, ast.Attribute) and isinstance(node.ctx, ast.Store):
                    self.assertNotIn(node.attr, taken, path)

    def test_views_are_iterated_at_once(self):
        for path, tree in trees():
            for node in ast.walk(tree):
                if isinstance(node, (ast.Assign, ast.Return)):
                    self.assertNotIsInstance(node.value, ast.GeneratorExp, (path, node.lineno))
                    called = isinstance(node.value, ast.Call) and isinstance(node.value.func, ast.Name)
                    lazy = called and node.value.func.id in ("zip", "range", "enumerate", "reversed", "iter")
                    self.assertFalse(lazy, (path, node.lineno))

    def test_any_all_and_sum_take_lists(self):
        for path, tree in trees():
            for node in ast.walk(tree):
                if isinstance(node, ast.Call) and isinstance(node.func, ast.Name):
                    if node.func.id in ("any", "all", "sum", "min", "max", "sorted"):
                        self.assertNotIsInstance(node.args[0], ast.GeneratorExp, (path, node.lineno))


if __name__ == "__main__":
    unittest.main()
