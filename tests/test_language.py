"""What can be seen at once of how the files of the package are to be written."""

import ast
import builtins
import pathlib
import re
import unittest

PACKAGE = pathlib.Path(__file__).resolve().parent.parent / "valueshown"
FILES = sorted(PACKAGE.glob("*.py"))

BUILTINS = set(
    "len range enumerate zip min max sum abs sorted reversed int str bool bytes list tuple dict set frozenset "
    "isinstance ord repr any all divmod iter next map property staticmethod classmethod super "
    "Exception ValueError TypeError KeyError IndexError LookupError ZeroDivisionError ArithmeticError "
    "OverflowError RuntimeError NotImplementedError AttributeError StopIteration NotImplemented".split()
)
BARRED_WORDS = re.compile(
    r"\b(type|typing|enum|Enum|Generic|Protocol|ABC|namedtuple|NamedTuple|TypedDict|abstractmethod)\b"
)
BARRED_NAMES = {"register", "mro", "elements", "open", "input", "law", "version_info", "eval", "exec", "id", "type"}
TAKE_LISTS = ("any", "all", "min", "max", "sum", "sorted")
ITERATING = "list tuple dict sorted sum any all enumerate zip min max reversed".split()
CHANGING = set("append clear extend insert pop remove reverse setdefault update sort add discard".split())


def all_nodes():
    """Each file of the package with each node of its tree."""
    for path in FILES:
        for node in ast.walk(ast.parse(path.read_text(encoding="utf-8"))):
            yield path.name, node


def functions():
    """Each function of the package that stands in no other one."""
    for path in FILES:
        tree = ast.parse(path.read_text(encoding="utf-8"))
        for part in tree.body:
            for node in part.body if isinstance(part, ast.ClassDef) else [part]:
                if isinstance(node, ast.FunctionDef):
                    yield path.name, node


def roots(node):
    """The names and attributes that a value is, or may be, by itself or by what goes over it."""
    if isinstance(node, ast.Name):
        return {node.id}
    if isinstance(node, ast.Attribute):
        return {"." + node.attr}
    if isinstance(node, ast.IfExp):
        return roots(node.body) | roots(node.orelse)
    if isinstance(node, ast.BoolOp):
        return set().union(*[roots(part) for part in node.values])
    if isinstance(node, ast.Call):
        if getattr(node.func, "id", None) in ("enumerate", "zip", "reversed", "iter"):
            return set().union(*[roots(part) for part in node.args])
        if getattr(node.func, "attr", None) in ("items", "keys", "values"):
            return roots(node.func.value)
    return set()


def same_names(function):
    """The dict from the names of a function to the sets of those that may be the same value, by an assignment."""
    same = {}
    for node in ast.walk(function):
        pairs = []
        if isinstance(node, ast.Assign):
            for target in node.targets:
                if isinstance(target, ast.Tuple) and isinstance(node.value, ast.Tuple):
                    pairs.extend(zip(target.elts, node.value.elts))
                pairs.append((target, node.value))
        for target, value in pairs:
            for name in roots(target):
                group = {name}.union(*[same.get(other, {other}) for other in {name} | roots(value)])
                same.update({other: group for other in group})
    return same


def changed_in(nodes):
    """The names and attributes that are changed, not just assigned, in some nodes."""
    found = set()
    for node in [inner for part in nodes for inner in ast.walk(part)]:
        if isinstance(node, ast.Call) and getattr(node.func, "attr", None) in CHANGING:
            found |= roots(node.func.value)
        if isinstance(node, ast.Subscript) and isinstance(node.ctx, (ast.Store, ast.Del)):
            found |= roots(node.value)
        if isinstance(node, ast.AugAssign):
            found |= roots(node.target)
    return found


def loops(function):
    """The loops and comprehensions of a function: what each goes over, and what is done in it."""
    for node in ast.walk(function):
        if isinstance(node, ast.For):
            yield node.iter, node.body + node.orelse
        for part in getattr(node, "generators", []):
            yield part.iter, [node]


class LanguageTest(unittest.TestCase):
    def test_loops_do_not_change_what_they_go_over(self):
        for name, function in functions():
            same = same_names(function)
            for walked, inner in loops(function):
                changed = changed_in(inner)
                for root in roots(walked):
                    self.assertFalse(changed & same.get(root, {root}), (name, function.name, walked.lineno))

    def test_a_name_that_takes_over_is_seen(self):
        function = ast.parse(
            "def f(xs):\n  while xs:\n    led = []\n    for x in xs:\n      led.append(x)\n    xs = led\n"
        ).body[0]
        walked, inner = list(loops(function))[0]
        self.assertTrue(changed_in(inner) & same_names(function)["xs"])

    def test_the_folder_contains_files_of_python_only(self):
        names = [path.name for path in PACKAGE.iterdir() if path.name != "__pycache__"]
        self.assertEqual(sorted(names), [path.name for path in FILES])
        self.assertIn("__init__.py", names)

    def test_no_two_files_import_from_each_other(self):
        imports = {}
        for path in FILES:
            tree = ast.parse(path.read_text(encoding="utf-8"))
            imports[path.stem] = {
                node.module.split(".")[1] for node in ast.walk(tree) if isinstance(node, ast.ImportFrom)
            }
        while imports:
            free = [name for name, needed in imports.items() if not needed & set(imports)]
            self.assertTrue(free, imports)
            imports = {name: needed for name, needed in imports.items() if name not in free}

    def test_imports_are_used_and_stay(self):
        for path in FILES:
            tree = ast.parse(path.read_text(encoding="utf-8"))
            bound = {alias.name for node in ast.walk(tree) if isinstance(node, ast.ImportFrom) for alias in node.names}
            used = {node.id for node in ast.walk(tree) if isinstance(node, ast.Name)}
            self.assertEqual(bound - used, set(), path.name)
            bound |= {node.name for node in tree.body if isinstance(node, ast.ClassDef)}
            for node in ast.walk(tree):
                if isinstance(node, ast.arg):
                    self.assertNotIn(node.arg, bound, path.name)
                if isinstance(node, ast.Name) and isinstance(node.ctx, ast.Store):
                    self.assertNotIn(node.id, bound, (path.name, node.lineno))

    def test_static_methods_have_names_of_their_own(self):
        static = {
            node.name for _, node in all_nodes()
            if isinstance(node, ast.FunctionDef) and any(getattr(part, "id", "") == "staticmethod"
                                                         for part in node.decorator_list)
        }
        self.assertEqual(static, {"plain", "opening"})
        for name, node in all_nodes():
            if isinstance(node, ast.Attribute) and isinstance(node.ctx, ast.Store):
                self.assertNotIn(node.attr, static, name)

    def test_no_name_is_a_method_and_an_attribute_of_one_class(self):
        for name, node in all_nodes():
            if isinstance(node, ast.ClassDef):
                methods = {part.name for part in node.body if isinstance(part, ast.FunctionDef)}
                stored = {
                    part.attr for part in ast.walk(node)
                    if isinstance(part, ast.Attribute) and isinstance(part.ctx, ast.Store)
                    and getattr(part.value, "id", "") == "self"
                }
                properties = {
                    part.name for part in node.body if isinstance(part, ast.FunctionDef) and part.decorator_list
                }
                self.assertEqual(methods & stored - properties, set(), (name, node.name))

    def test_ranges_and_the_like_are_iterated_at_once(self):
        for path in FILES:
            tree = ast.parse(path.read_text(encoding="utf-8"))
            fine = set()
            for node in ast.walk(tree):
                if isinstance(node, ast.For):
                    fine.add(node.iter)
                for part in getattr(node, "generators", []):
                    fine.add(part.iter)
                if isinstance(node, ast.Call) and getattr(node.func, "id", None) in ITERATING:
                    fine.update(node.args)
                if isinstance(node, ast.Call) and getattr(node.func, "attr", None) == "join":
                    fine.update(node.args)
            for node in ast.walk(tree):
                if isinstance(node, ast.Call):
                    called = getattr(node.func, "id", None) or getattr(node.func, "attr", None)
                    if called in ("range", "zip", "enumerate", "reversed", "items", "keys", "values"):
                        self.assertIn(node, fine, (path.name, node.lineno))

    def test_characters_and_lengths(self):
        for path in FILES:
            lines = path.read_text(encoding="utf-8").split("\n")
            self.assertLess(len(lines), 400, path.name)
            for line in lines:
                self.assertLessEqual(len(line), 120, (path.name, line))
                self.assertTrue(all(" " <= letter <= "~" for letter in line), (path.name, line))

    def test_functions_are_short(self):
        for name, node in all_nodes():
            if isinstance(node, ast.FunctionDef):
                self.assertLessEqual(node.end_lineno - node.lineno + 1, 40, (name, node.name))

    def test_imports_name_the_file_that_defines(self):
        for name, node in all_nodes():
            self.assertNotIsInstance(node, ast.Import, name)
            if isinstance(node, ast.ImportFrom):
                self.assertTrue(node.module.startswith("valueshown."), (name, node.module))
                path = PACKAGE / (node.module.split(".")[1] + ".py")
                defined = {part.name for part in ast.parse(path.read_text()).body if hasattr(part, "name")}
                for alias in node.names:
                    self.assertIsNone(alias.asname, name)
                    self.assertTrue(alias.name in defined or alias.name.isupper(), (name, alias.name))

    def test_builtins(self):
        everything = set(dir(builtins))
        for name, node in all_nodes():
            if isinstance(node, ast.Name) and node.id in everything:
                self.assertIn(node.id, BUILTINS, name)
                self.assertIsInstance(node.ctx, ast.Load, (name, node.id))
            if isinstance(node, ast.arg) or (isinstance(node, ast.FunctionDef) and node.col_offset == 0):
                called = node.arg if isinstance(node, ast.arg) else node.name
                self.assertNotIn(called, everything, name)

    def test_barred_names_and_words(self):
        for name, node in all_nodes():
            for part in ("id", "arg", "attr", "name"):
                self.assertNotIn(getattr(node, part, None), BARRED_NAMES, name)
        for path in FILES:
            self.assertIsNone(BARRED_WORDS.search(path.read_text()), path.name)

    def test_statements_and_expressions(self):
        barred = (ast.Global, ast.AsyncFunctionDef, ast.Await, ast.Div)
        for name, node in all_nodes():
            self.assertNotIsInstance(node, barred, (name, getattr(node, "lineno", None)))
            if isinstance(node, ast.Constant):
                self.assertNotIsInstance(node.value, (float, complex), name)
            if isinstance(node, ast.Compare) and isinstance(node.ops[0], (ast.Is, ast.IsNot)):
                self.assertIsInstance(node.comparators[0], ast.Constant, name)

    def test_any_all_and_the_like_take_lists(self):
        for name, node in all_nodes():
            if isinstance(node, ast.Call) and getattr(node.func, "id", None) in TAKE_LISTS:
                self.assertNotIsInstance(node.args[0], ast.GeneratorExp, (name, node.lineno))


if __name__ == "__main__":
    unittest.main()
