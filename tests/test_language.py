"""What can be seen at once of how the files of the package are to be written."""

import ast
import builtins
import pathlib
import re
import unittest

PACKAGE = pathlib.Path(__file__).resolve().parent.parent / "valueshown"
FILES = sorted(PACKAGE.glob("*.py"))

BUILTINS = set(
    "len range enumerate zip min max sum abs sorted reversed int str bool bytes list tuple dict set frozenset "
    "isinstance ord repr any all divmod iter next map property staticmethod classmethod super "
    "Exception ValueError TypeError KeyError IndexError LookupError ZeroDivisionError ArithmeticError "
    "OverflowError RuntimeError NotImplementedError AttributeError StopIteration NotImplemented".split()
)
BARRED_WORDS = re.compile(
    r"\b(type|typing|enum|Enum|Generic|Protocol|ABC|namedtuple|NamedTuple|TypedDict|abstractmethod)\b"
)
BARRED_NAMES = {"register", "mro", "elements", "open", "input", "law", "version_info", "eval", "exec", "id", "type"}
TAKE_LISTS = ("any", "all", "min", "max", "sum", "sorted")


def all_nodes():
    """Each file of the package with each node of its tree."""
    for path in FILES:
        for node in ast.walk(ast.parse(path.read_text(encoding="utf-8"))):
            yield path.name, node


class LanguageTest(unittest.TestCase):
    def test_the_folder_contains_files_of_python_only(self):
        names = [path.name for path in PACKAGE.iterdir() if path.name != "__pycache__"]
        self.assertEqual(sorted(names), [path.name for path in FILES])
        self.assertIn("__init__.py", names)

    def test_characters_and_lengths(self):
        for path in FILES:
            lines = path.read_text(encoding="utf-8").split("\n")
            self.assertLess(len(lines), 400, path.name)
            for line in lines:
                self.assertLessEqual(len(line), 120, (path.name, line))
                self.assertTrue(all(" " <= letter <= "~" for letter in line), (path.name, line))

    def test_functions_are_short(self):
        for name, node in all_nodes():
            if isinstance(node, ast.FunctionDef):
                self.assertLessEqual(node.end_lineno - node.lineno + 1, 40, (name, node.name))

    def test_imports_name_the_file_that_defines(self):
        for name, node in all_nodes():
            self.assertNotIsInstance(node, ast.Import, name)
            if isinstance(node, ast.ImportFrom):
                self.assertTrue(node.module.startswith("valueshown."), (name, node.module))
                path = PACKAGE / (node.module.split(".")[1] + ".py")
                defined = {part.name for part in ast.parse(path.read_text()).body if hasattr(part, "name")}
                for alias in node.names:
                    self.assertIsNone(alias.asname, name)
                    self.assertTrue(alias.name in defined or alias.name.isupper(), (name, alias.name))

    def test_builtins(self):
        everything = set(dir(builtins))
        for name, node in all_nodes():
            if isinstance(node, ast.Name) and node.id in everything:
                self.assertIn(node.id, BUILTINS, name)
                self.assertIsInstance(node.ctx, ast.Load, (name, node.id))
            if isinstance(node, ast.arg) or (isinstance(node, ast.FunctionDef) and node.col_offset == 0):
                called = node.arg if isinstance(node, ast.arg) else node.name
                self.assertNotIn(called, everything, name)

    def test_barred_names_and_words(self):
        for name, node in all_nodes():
            for part in ("id", "arg", "attr", "name"):
                self.assertNotIn(getattr(node, part, None), BARRED_NAMES, name)
        for path in FILES:
            self.assertIsNone(BARRED_WORDS.search(path.read_text()), path.name)

    def test_statements_and_expressions(self):
        barred = (ast.Global, ast.AsyncFunctionDef, ast.Await, ast.Div)
        for name, node in all_nodes():
            self.assertNotIsInstance(node, barred, (name, getattr(node, "lineno", None)))
            if isinstance(node, ast.Constant):
                self.assertNotIsInstance(node.value, (float, complex), name)
            if isinstance(node, ast.Compare) and isinstance(node.ops[0], (ast.Is, ast.IsNot)):
                self.assertIsInstance(node.comparators[0], ast.Constant, name)

    def test_any_all_and_the_like_take_lists(self):
        for name, node in all_nodes():
            if isinstance(node, ast.Call) and getattr(node.func, "id", None) in TAKE_LISTS:
                self.assertNotIsInstance(node.args[0], ast.GeneratorExp, (name, node.lineno))


if __name__ == "__main__":
    unittest.main()
