"""The package keeps to the part of Python that LANGUAGE.md tells, as far as a look at the files can see it."""

import ast
import builtins
import pathlib
import re
import unittest

PACKAGE = pathlib.Path(__file__).resolve().parent.parent / "stepsweep"

STATEMENTS = (
    ast.Module, ast.FunctionDef, ast.ClassDef, ast.ImportFrom, ast.Assign, ast.AugAssign, ast.If, ast.While, ast.For,
    ast.Return, ast.Break, ast.Continue, ast.Pass, ast.Raise, ast.Try, ast.Expr,
)
OUTSIDE = (
    ast.Set, ast.SetComp, ast.DictComp, ast.GeneratorExp, ast.NamedExpr, ast.Starred, ast.Div, ast.Yield,
    ast.YieldFrom, ast.Await, ast.AnnAssign, ast.JoinedStr,
)
BUILTINS = """len range enumerate zip min max sum abs sorted reversed int str bool list tuple dict set frozenset
    isinstance ord repr any all divmod""".split()
METHODS = """append clear copy count endswith extend find get index insert items join keys pop remove replace reverse
    setdefault split startswith strip update values""".split()
NOWHERE = """type typing typing_extensions enum Enum IntEnum StrEnum Flag IntFlag Generic Protocol ABC ABCMeta
    namedtuple NamedTuple TypedDict TYPE_CHECKING abstractmethod""".split()
UNUSED = "register mro elements open input version_info with_traceback add_note format format_map".split()
WALKED = "zip enumerate reversed range items keys values".split()
WALKERS = "list tuple dict sorted sum any all enumerate zip min max".split()
CHANGES = "append clear extend insert pop remove reverse setdefault update".split()
OWN_VALUES = "count index title find get join lower upper split strip copy add".split()
PYTHON_VALUES = (str, int, list, tuple, dict, set, frozenset, bytes, bool)


def modules():
    return [(path, path.read_text(encoding="utf-8")) for path in sorted(PACKAGE.glob("*.py"))]


def nodes(kind):
    for path, text in modules():
        for node in ast.walk(ast.parse(text)):
            if isinstance(node, kind):
                yield path.name, node


def bound_names(tree):
    for node in ast.walk(tree):
        if isinstance(node, (ast.FunctionDef, ast.ClassDef)):
            yield node.name
        elif isinstance(node, ast.arg):
            yield node.arg
        elif isinstance(node, ast.Name) and isinstance(node.ctx, ast.Store):
            yield node.id
        elif isinstance(node, ast.Attribute):
            yield node.attr


def top_names(node):
    if isinstance(node, ast.ImportFrom):
        return [alias.name for alias in node.names]
    if isinstance(node, ast.Assign):
        return [target.id for target in node.targets]
    return [node.name] if isinstance(node, (ast.FunctionDef, ast.ClassDef)) else []


def local_names(function):
    for node in ast.walk(function):
        if isinstance(node, ast.arg):
            yield node.arg
        elif isinstance(node, ast.Name) and isinstance(node.ctx, ast.Store):
            yield node.id


def called(node):
    return node.func.id if isinstance(node.func, ast.Name) else getattr(node.func, "attr", None)


class LanguageTest(unittest.TestCase):
    def test_files(self):
        for path in PACKAGE.iterdir():
            if path.name != "__pycache__":
                self.assertRegex(path.name, r"^([a-z][a-z0-9_]*|__init__)\.py$")
                self.assertNotIn(path.stem, dir(builtins))

    def test_rows_signs_and_words(self):
        for path, text in modules():
            self.assertRegex(text, r"\A[ -~\n]*\Z", path.name)
            rows = text.splitlines()
            self.assertLessEqual(len(rows), 400, path.name)
            self.assertLessEqual(max(len(row) for row in rows), 120, path.name)
            words = set(re.findall(r"\w+", text))
            self.assertEqual(words & set(NOWHERE), set(), path.name)

    def test_imports_are_the_package_s_own(self):
        for name, node in nodes(ast.ImportFrom):
            self.assertEqual(node.level, 0, name)
            self.assertTrue(node.module.startswith("stepsweep."), name)
            self.assertTrue((PACKAGE / f"{node.module.split('.')[1]}.py").exists(), name)
            for alias in node.names:
                self.assertNotEqual(alias.name, "*", name)

    def test_statements(self):
        for name, node in nodes(ast.stmt):
            self.assertIsInstance(node, STATEMENTS, f"{name}:{node.lineno}")
            if isinstance(node, ast.Assign):
                self.assertEqual(len(node.targets), 1, f"{name}:{node.lineno}")
                self.assertNotIsInstance(node.targets[0], (ast.Tuple, ast.List), f"{name}:{node.lineno}")
            if isinstance(node, (ast.For, ast.While)):
                self.assertEqual(node.orelse, [], f"{name}:{node.lineno}")

    def test_a_text_by_itself_stands_at_a_file_s_top_alone(self):
        for path, text in modules():
            tops = ast.parse(text).body[:1]
            for node in ast.walk(ast.parse(text)):
                if isinstance(node, ast.Expr) and node.lineno != tops[0].lineno:
                    self.assertIsInstance(node.value, ast.Call, f"{path.name}:{node.lineno}")

    def test_expressions(self):
        for name, node in nodes(OUTSIDE):
            self.fail(f"{name}: {ast.dump(node)}")
        for name, node in nodes(ast.Constant):
            self.assertIsInstance(node.value, (int, str, type(None)), name)
        for name, node in nodes(ast.Compare):
            if any(isinstance(op, (ast.Is, ast.IsNot)) for op in node.ops):
                self.assertIsInstance(node.comparators[0], ast.Constant, f"{name}:{node.lineno}")

    def test_functions_are_small_and_plain(self):
        for name, node in nodes(ast.FunctionDef):
            self.assertLessEqual(node.end_lineno - node.lineno + 1, 40, node.name)
            self.assertEqual(node.decorator_list, [], node.name)
            self.assertIsNone(node.args.vararg, node.name)
            self.assertIsNone(node.args.kwarg, node.name)
            self.assertEqual(node.args.kwonlyargs, [], node.name)

    def test_names(self):
        for path, text in modules():
            for name in bound_names(ast.parse(text)):
                if name != "__init__":
                    self.assertRegex(name, r"^[A-Za-z][A-Za-z0-9_]*$", path.name)
                self.assertNotIn(name, UNUSED, path.name)
        for name, node in nodes(ast.Name):
            if isinstance(node.ctx, ast.Store):
                self.assertNotIn(node.id, dir(builtins), name)
            elif node.id in dir(builtins):
                self.assertIn(node.id, BUILTINS, f"{name}:{node.lineno}")

    def test_methods_are_the_package_s_own_or_the_listed(self):
        own = {node.name for name, node in nodes(ast.FunctionDef)}
        for name, node in nodes(ast.Call):
            if isinstance(node.func, ast.Attribute):
                self.assertIn(node.func.attr, own | set(METHODS), f"{name}:{node.lineno}")

    def test_no_name_is_a_method_and_a_value(self):
        methods = {item.name for name, node in nodes(ast.ClassDef) for item in node.body}
        for name, node in nodes(ast.Attribute):
            if isinstance(node.ctx, ast.Store):
                self.assertNotIn(node.attr, methods, f"{name}:{node.lineno}")

    def test_sets_are_sorted_on_the_spot(self):
        sorted_at_once = []
        for name, node in nodes(ast.Call):
            if isinstance(node.func, ast.Name) and node.func.id == "sorted":
                sorted_at_once += [(name, arg.lineno, arg.col_offset) for arg in node.args]
        for name, node in nodes(ast.Call):
            if isinstance(node.func, ast.Name) and node.func.id in ("set", "frozenset"):
                self.assertIn((name, node.lineno, node.col_offset), sorted_at_once)

    def test_the_top_of_a_module(self):
        for path, text in modules():
            tree = ast.parse(text)
            self.assertIsNotNone(ast.get_docstring(tree), path.name)
            for node in tree.body[1:]:
                self.assertIsInstance(node, (ast.ImportFrom, ast.FunctionDef, ast.ClassDef, ast.Assign), path.name)
            tops = [name for node in tree.body for name in top_names(node)]
            self.assertEqual(len(tops), len(set(tops)), path.name)

    def test_imports_stand_ahead_and_name_what_the_file_defines(self):
        for path, text in modules():
            body = ast.parse(text).body[1:]
            kinds = [isinstance(node, ast.ImportFrom) for node in body]
            self.assertEqual(kinds, sorted(kinds, reverse=True), path.name)
            for node in body:
                if isinstance(node, ast.ImportFrom):
                    drawn = (PACKAGE / f"{node.module.split('.')[1]}.py").read_text(encoding="utf-8")
                    defined = [name for top in ast.parse(drawn).body if not isinstance(top, ast.ImportFrom)
                               for name in top_names(top)]
                    for alias in node.names:
                        self.assertIn(alias.name, defined, path.name)
                        self.assertIsNone(alias.asname, path.name)

    def test_no_two_files_draw_from_one_another(self):
        drawn = {path.stem: [] for path, text in modules()}
        for name, node in nodes(ast.ImportFrom):
            drawn[name[:-3]].append(node.module.split(".")[1])
        while drawn:
            ends = [stem for stem in drawn if not set(drawn[stem]) & set(drawn)]
            self.assertNotEqual(ends, [], drawn)
            for stem in ends:
                drawn.pop(stem)

    def test_everything_that_is_drawn_or_defined_is_used(self):
        used = {node.id for name, node in nodes(ast.Name) if isinstance(node.ctx, ast.Load)}
        used |= {node.attr for name, node in nodes(ast.Attribute)} | {"answers", "__init__"}
        for name, node in nodes((ast.FunctionDef, ast.ClassDef)):
            self.assertIn(node.name, used, name)
        for path, text in modules():
            tree = ast.parse(text)
            loads = {node.id for node in ast.walk(tree) if isinstance(node, ast.Name)}
            for node in tree.body:
                if isinstance(node, ast.ImportFrom):
                    self.assertEqual([alias.name for alias in node.names if alias.name not in loads], [], path.name)

    def test_classes_have_methods_alone(self):
        for name, node in nodes(ast.ClassDef):
            self.assertEqual((node.bases, node.keywords, node.decorator_list), ([], [], []), node.name)
            for item in node.body:
                self.assertIsInstance(item, ast.FunctionDef, node.name)
            methods = [item.name for item in node.body]
            self.assertEqual(len(methods), len(set(methods)), node.name)

    def test_locals_are_not_called_like_others(self):
        for path, text in modules():
            tree = ast.parse(text)
            taken = {alias.name for node in tree.body if isinstance(node, ast.ImportFrom) for alias in node.names}
            taken |= {node.name for node in tree.body if isinstance(node, (ast.ClassDef, ast.FunctionDef))}
            for function in ast.walk(tree):
                if isinstance(function, ast.FunctionDef):
                    for name in local_names(function):
                        self.assertNotIn(name, taken, f"{path.name}: {function.name}")
                        self.assertNotIn(name, dir(builtins), f"{path.name}: {function.name}")

    def test_own_methods_and_values_are_not_python_s(self):
        taken = {name for kind in PYTHON_VALUES for name in dir(kind)}
        for name, node in nodes(ast.ClassDef):
            for item in node.body:
                if item.name != "__init__":
                    self.assertNotIn(item.name, taken, name)
        for name, node in nodes(ast.Attribute):
            if isinstance(node.ctx, ast.Store):
                self.assertNotIn(node.attr, taken - set(OWN_VALUES), f"{name}:{node.lineno}")

    def test_what_is_to_be_walked_is_walked_on_the_spot(self):
        for path, text in modules():
            tree = ast.parse(text)
            walked = set()
            for node in ast.walk(tree):
                if isinstance(node, (ast.For, ast.comprehension)):
                    walked.add(node.iter)
                elif isinstance(node, ast.Call) and called(node) in WALKERS:
                    walked.add(node.args[0])
            for node in ast.walk(tree):
                if isinstance(node, ast.Call) and called(node) in WALKED:
                    self.assertIn(node, walked, f"{path.name}:{node.lineno}")

    def test_what_a_loop_walks_is_not_changed_in_it(self):
        for name, node in nodes(ast.For):
            walked = {ast.unparse(part) for part in ast.walk(node.iter)
                      if isinstance(part, (ast.Name, ast.Attribute, ast.Subscript))}
            for inner in ast.walk(ast.Module(body=node.body, type_ignores=[])):
                if isinstance(inner, ast.Call) and isinstance(inner.func, ast.Attribute):
                    if inner.func.attr in CHANGES:
                        self.assertNotIn(ast.unparse(inner.func.value), walked, f"{name}:{inner.lineno}")
                elif isinstance(inner, ast.Subscript) and isinstance(inner.ctx, ast.Store):
                    self.assertNotIn(ast.unparse(inner.value), walked, f"{name}:{inner.lineno}")

    def test_texts_have_no_percent_sign_and_powers_are_not_used(self):
        for name, node in nodes(ast.Constant):
            if isinstance(node.value, str):
                self.assertNotIn("%", node.value, name)
        for name, node in nodes(ast.Pow):
            self.fail(name)
