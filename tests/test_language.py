"""The plainest rules of ../shared/LANGUAGE.md, looked up in the files of the package."""

import ast
import builtins
import pathlib
import re
import unittest

PACKAGE = pathlib.Path(__file__).resolve().parent.parent / "fewfetches"
FILES = sorted(path for path in PACKAGE.rglob("*") if "__pycache__" not in path.parts and path.is_file())

BUILTINS = set("""len range enumerate zip min max sum abs sorted reversed int str bool bytes list tuple dict set frozenset
isinstance ord chr repr any all divmod pow getattr hasattr setattr iter next super type property staticmethod classmethod
Exception ValueError TypeError KeyError IndexError LookupError ZeroDivisionError ArithmeticError OverflowError
RuntimeError NotImplementedError AttributeError StopIteration NotImplemented""".split())

BARRED = re.compile(r"\b(type|typing|typing_extensions|enum|Enum|IntEnum|StrEnum|Flag|IntFlag|Generic|Protocol|ABC|"
                    r"ABCMeta|namedtuple|NamedTuple|TypedDict|TYPE_CHECKING|abstractmethod)\b")

STATEMENTS = (ast.Assign, ast.AugAssign, ast.If, ast.While, ast.For, ast.Return, ast.Break, ast.Continue, ast.Pass,
              ast.Raise, ast.Assert, ast.Delete, ast.Try, ast.Expr, ast.FunctionDef, ast.ClassDef, ast.ImportFrom)


def nodes(*kinds):
    """All nodes of these kinds in the package, with the file's name."""
    for path in FILES:
        for node in ast.walk(ast.parse(path.read_text())):
            if isinstance(node, kinds):
                yield path.name, node


class TestLanguage(unittest.TestCase):
    def test_files(self):
        self.assertTrue(FILES)
        for path in FILES:
            self.assertEqual(path.suffix, ".py", path)
            text = path.read_bytes().decode("ascii")
            self.assertTrue(all(" " <= sign <= "~" or sign == "\n" for sign in text), path)
            lines = text.split("\n")
            self.assertLessEqual(len(lines), 400, path)
            self.assertTrue(all(len(line) <= 120 for line in lines), path)

    def test_functions_are_small(self):
        for name, node in nodes(ast.FunctionDef):
            self.assertLessEqual(node.end_lineno - node.lineno + 1, 40, (name, node.name))

    def test_imports(self):
        for name, node in nodes(ast.Import, ast.ImportFrom):
            self.assertIsInstance(node, ast.ImportFrom, name)
            self.assertTrue(node.module.startswith("fewfetches.") and node.level == 0, (name, node.module))
            self.assertTrue(all(alias.name != "*" for alias in node.names), name)

    def test_statements_and_expressions(self):
        for name, node in nodes(ast.stmt):
            self.assertIsInstance(node, STATEMENTS, (name, node.lineno))
        for name, node in nodes(ast.Div, ast.Await, ast.NamedExpr, ast.Global, ast.Lambda):
            self.assertIsInstance(node, ast.Lambda, name)
        for name, node in nodes(ast.Constant):
            self.assertIsInstance(node.value, (int, str, bytes, bool, type(None)), (name, node.lineno))

    def test_decorators(self):
        for name, node in nodes(ast.FunctionDef, ast.ClassDef):
            for decorator in node.decorator_list:
                self.assertIn(ast.unparse(decorator), ("property", "classmethod", "staticmethod"), (name, node.name))

    def test_properties_call_builtins_alone(self):
        seen = []
        for name, node in nodes(ast.FunctionDef):
            if "property" in [ast.unparse(decorator) for decorator in node.decorator_list]:
                seen.append(node.name)
                for call in [part for part in ast.walk(node) if isinstance(part, ast.Call)]:
                    self.assertIn(ast.unparse(call.func), ("tuple", "len", "sorted", "NotDone"), (name, node.name))
                for part in ast.walk(node):
                    self.assertNotIsInstance(part, (ast.Assign, ast.AugAssign, ast.Delete), (name, node.name))
        self.assertIn("page_names", seen)

    def test_builtins(self):
        known = set(dir(builtins))
        for name, node in nodes(ast.Name):
            if node.id in known:
                self.assertIn(node.id, BUILTINS, (name, node.lineno))
                self.assertIsInstance(node.ctx, ast.Load, (name, node.lineno))
        for name, node in nodes(ast.arg):
            self.assertNotIn(node.arg, known, (name, node.lineno))

    def test_no_name_of_a_class_or_an_import_is_given_again(self):
        for path in FILES:
            tree = ast.parse(path.read_text())
            taken = {node.name for node in ast.walk(tree) if isinstance(node, ast.ClassDef)}
            for node in ast.walk(tree):
                if isinstance(node, ast.ImportFrom):
                    taken |= {alias.name for alias in node.names}
            for node in ast.walk(tree):
                if isinstance(node, ast.arg):
                    self.assertNotIn(node.arg, taken, (path.name, node.lineno))
                if isinstance(node, ast.Name) and isinstance(node.ctx, ast.Store):
                    self.assertNotIn(node.id, taken, (path.name, node.lineno))

    def test_is_stands_beside_a_constant(self):
        for name, node in nodes(ast.Compare):
            for op, other in zip(node.ops, node.comparators):
                if isinstance(op, (ast.Is, ast.IsNot)):
                    self.assertIsInstance(other, ast.Constant, (name, node.lineno))
                    self.assertIn(repr(other.value), ("None", "True", "False"), (name, node.lineno))

    def test_generators_are_called_with_plain_things(self):
        made = {node.name for _, node in nodes(ast.FunctionDef)
                if any(isinstance(part, (ast.Yield, ast.YieldFrom)) for part in ast.walk(node))}
        self.assertIn("points_of", made)
        for name, node in nodes(ast.Call):
            called = getattr(node.func, "id", getattr(node.func, "attr", None))
            if called in made:
                for part in node.args:
                    self.assertIsInstance(part, (ast.Name, ast.Attribute, ast.Constant), (name, node.lineno))

    def test_no_generator_expressions(self):
        self.assertEqual([(name, node.lineno) for name, node in nodes(ast.GeneratorExp)], [])

    def test_barred_words(self):
        for path in FILES:
            tree = ast.parse(path.read_text())
            for node in ast.walk(tree):
                for field in ("id", "attr", "arg", "name"):
                    word = getattr(node, field, None)
                    if isinstance(word, str):
                        self.assertIsNone(BARRED.fullmatch(word), (path.name, word))

    def test_double_underscores(self):
        allowed = {"__init__", "__eq__", "__len__", "__iter__"}
        for name, node in nodes(ast.FunctionDef):
            if node.name.startswith("__"):
                self.assertIn(node.name, allowed, name)

    def test_caught_errors_are_own(self):
        for name, node in nodes(ast.ExceptHandler):
            self.assertIsNotNone(node.type, name)
            for word in re.findall(r"\w+", ast.unparse(node.type)):
                self.assertNotIn(word, dir(builtins), (name, node.lineno))


if __name__ == "__main__":
    unittest.main()
