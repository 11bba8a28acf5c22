"""The package keeps to the part of Python that LANGUAGE.md tells, as far as a look at the files can see it."""

import ast
import builtins
import pathlib
import re
import unittest

PACKAGE = pathlib.Path(__file__).resolve().parent.parent / "stepsweep"

STATEMENTS = (
    ast.Module, ast.FunctionDef, ast.ClassDef, ast.ImportFrom, ast.Assign, ast.AugAssign, ast.If, ast.While, ast.For,
    ast.Return, ast.Break, ast.Continue, ast.Pass, ast.Raise, ast.Try, ast.Expr,
)
OUTSIDE = (
    ast.Set, ast.SetComp, ast.DictComp, ast.GeneratorExp, ast.NamedExpr, ast.Starred, ast.Div, ast.Yield,
    ast.YieldFrom, ast.Await, ast.AnnAssign, ast.JoinedStr,
)
BUILTINS = """len range enumerate zip min max sum abs sorted reversed int str bool list tuple dict set frozenset
    isinstance ord repr any all divmod""".split()
METHODS = """append clear copy count endswith extend find get index insert items join keys pop remove replace reverse
    setdefault split startswith strip update values""".split()
NOWHERE = """type typing typing_extensions enum Enum IntEnum StrEnum Flag IntFlag Generic Protocol ABC ABCMeta
    namedtuple NamedTuple TypedDict TYPE_CHECKING abstractmethod""".split()
UNUSED = "register mro elements open input version_info with_traceback add_note format format_map".split()


def modules():
    return [(path, path.read_text(encoding="utf-8")) for path in sorted(PACKAGE.glob("*.py"))]


def nodes(kind):
    for path, text in modules():
        for node in ast.walk(ast.parse(text)):
            if isinstance(node, kind):
                yield path.name, node


def bound_names(tree):
    for node in ast.walk(tree):
        if isinstance(node, (ast.FunctionDef, ast.ClassDef)):
            yield node.name
        elif isinstance(node, ast.arg):
            yield node.arg
        elif isinstance(node, ast.Name) and isinstance(node.ctx, ast.Store):
            yield node.id
        elif isinstance(node, ast.Attribute):
            yield node.attr


class LanguageTest(unittest.TestCase):
    def test_files(self):
        for path in PACKAGE.iterdir():
            if path.name != "__pycache__":
                self.assertRegex(path.name, r"^([a-z][a-z0-9_]*|__init__)\.py$")
                self.assertNotIn(path.stem, dir(builtins))

    def test_rows_signs_and_words(self):
        for path, text in modules():
            self.assertRegex(text, r"\A[ -~\n]*\Z", path.name)
            rows = text.splitlines()
            self.assertLessEqual(len(rows), 400, path.name)
            self.assertLessEqual(max(len(row) for row in rows), 120, path.name)
            words = set(re.findall(r"\w+", text))
            self.assertEqual(words & set(NOWHERE), set(), path.name)

    def test_imports_are_the_package_s_own(self):
        for name, node in nodes(ast.ImportFrom):
            self.assertEqual(node.level, 0, name)
            self.assertTrue(node.module.startswith("stepsweep."), name)
            self.assertTrue((PACKAGE / f"{node.module.split('.')[1]}.py").exists(), name)
            for alias in node.names:
                self.assertNotEqual(alias.name, "*", name)

    def test_statements(self):
        for name, node in nodes(ast.stmt):
            self.assertIsInstance(node, STATEMENTS, f"{name}:{node.lineno}")
            if isinstance(node, ast.Assign):
                self.assertEqual(len(node.targets), 1, f"{name}:{node.lineno}")
                self.assertNotIsInstance(node.targets[0], (ast.Tuple, ast.List), f"{name}:{node.lineno}")
            if isinstance(node, (ast.For, ast.While)):
                self.assertEqual(node.orelse, [], f"{name}:{node.lineno}")

    def test_a_text_by_itself_stands_at_a_file_s_top_alone(self):
        for path, text in modules():
            tops = ast.parse(text).body[:1]
            for node in ast.walk(ast.parse(text)):
                if isinstance(node, ast.Expr) and node.lineno != tops[0].lineno:
                    self.assertIsInstance(node.value, ast.Call, f"{path.name}:{node.lineno}")

    def test_expressions(self):
        for name, node in nodes(OUTSIDE):
            self.fail(f"{name}: {ast.dump(node)}")
        for name, node in nodes(ast.Constant):
            self.assertIsInstance(node.value, (int, str, type(None)), name)
        for name, node in nodes(ast.Compare):
            if any(isinstance(op, (ast.Is, ast.IsNot)) for op in node.ops):
                self.assertIsInstance(node.comparators[0], ast.Constant, f"{name}:{node.lineno}")

    def test_functions_are_small_and_plain(self):
        for name, node in nodes(ast.FunctionDef):
            self.assertLessEqual(node.end_lineno - node.lineno + 1, 40, node.name)
            self.assertEqual(node.decorator_list, [], node.name)
            self.assertIsNone(node.args.vararg, node.name)
            self.assertIsNone(node.args.kwarg, node.name)
            self.assertEqual(node.args.kwonlyargs, [], node.name)

    def test_names(self):
        for path, text in modules():
            for name in bound_names(ast.parse(text)):
                if name != "__init__":
                    self.assertRegex(name, r"^[A-Za-z][A-Za-z0-9_]*$", path.name)
                self.assertNotIn(name, UNUSED, path.name)
        for name, node in nodes(ast.Name):
            if isinstance(node.ctx, ast.Store):
                self.assertNotIn(node.id, dir(builtins), name)
            elif node.id in dir(builtins):
                self.assertIn(node.id, BUILTINS, f"{name}:{node.lineno}")

    def test_methods_are_the_package_s_own_or_the_listed(self):
        own = {node.name for name, node in nodes(ast.FunctionDef)}
        for name, node in nodes(ast.Call):
            if isinstance(node.func, ast.Attribute):
                self.assertIn(node.func.attr, own | set(METHODS), f"{name}:{node.lineno}")

    def test_no_name_is_a_method_and_a_value(self):
        methods = {item.name for name, node in nodes(ast.ClassDef) for item in node.body}
        for name, node in nodes(ast.Attribute):
            if isinstance(node.ctx, ast.Store):
                self.assertNotIn(node.attr, methods, f"{name}:{node.lineno}")

    def test_sets_are_sorted_on_the_spot(self):
        sorted_at_once = []
        for name, node in nodes(ast.Call):
            if isinstance(node.func, ast.Name) and node.func.id == "sorted":
                sorted_at_once += [(name, arg.lineno, arg.col_offset) for arg in node.args]
        for name, node in nodes(ast.Call):
            if isinstance(node.func, ast.Name) and node.func.id in ("set", "frozenset"):
                self.assertIn((name, node.lineno, node.col_offset), sorted_at_once)
