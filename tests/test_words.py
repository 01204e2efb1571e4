"""Names, rows and ends."""

import unittest

from tests.values import ODD_VALUES
from valueshown.words import is_end, is_made_row, is_name, is_row, reads, sets

ROWS = (
    ("set", "x", "f", ()), ("set", "x", "f", ("y",)), ("set", "x", "f", ("y", "z")),
    ("set", "x", "x", ("x", "x")), ("copy", "x", "y"), ("copy", "x", "x"),
    ("set", "set", "copy", ("call",)), ("copy", "copy", "set"),
)
CALLS = (
    ("call", "p", "f", (), ()), ("call", "p", "f", ("q",), ()), ("call", "p", "f", ("q", "q"), ("q", "p")),
    ("call", "p", "f", (), ("a", "b", "c", "d", "e", "f", "g", "h", "i")),
)
NO_ROWS = (
    ("set", "x", "f"), ("set", "x", "f", (), ()), ("set", "x", "f", ("y", "z", "u")),
    ("set", "x", "f", ["y"]), ["set", "x", "f", ()], ("set", "x", "f", "y"), ("set", "x", "f", None),
    ("set", "X", "f", ()), ("set", "x", "", ()), ("set", "x", "f", ("y", 1)), ("set", "x", "f", ("Y",)),
    ("set", True, "f", ()), ("set", "x", ["f"], ()), ("copy", "x"), ("copy", "x", "y", "z"), ["copy", "x", "y"],
    ("copy", "x", ("y",)), ("copy", "x", 1), ("copy", 1, "x"), ("put", "x", "y"), ("SET", "x", "f", ()),
    ("go", "a"), ("return", "x"), ("set",), (["set"], "x", "f", ()), ("set", "x", "f", {"y": 1}),
    ("set", "x", "f", (["y"],)), (None, "x", "y"), (1, 2, 3), (1, 2, 3, 4), (1, 2, 3, 4, 5),
)
NO_CALLS = (
    ("call", "p", "f", ()), ("call", "p", "f", (), (), ()), ("call", "p", "f", (), ["q"]),
    ("call", "p", "f", (), ("q", "q")), ("call", "p", "f", (), ("q", "r", "q")), ("call", "p", "f", (), ("Q",)),
    ("call", "p", "f", (), "q"), ("call", "p", "f", (), None), ("call", "p", "f", ("a", "b", "c"), ()),
    ("call", "p", "f", ["a"], ()), ("call", "P", "f", (), ()), ("call", "p", 1, (), ()),
    ["call", "p", "f", (), ()], ("call", "p", "f", (), (["q"],)), ("set", "p", "f", (), ()),
)


class NamesTest(unittest.TestCase):
    def test_names(self):
        for name in ("a", "z", "set", "return", "abcdefgh", "zzzzzzzz"):
            self.assertIs(is_name(name), True, name)

    def test_too_short_and_too_long(self):
        self.assertIs(is_name(""), False)
        self.assertIs(is_name("abcdefghi"), False)

    def test_other_characters(self):
        for name in ("A", "aB", "a1", "a_b", "a b", " a", "a ", "a\n", "`", "{", "\u00e4", "\u0430", "\ud800", "a\0"):
            self.assertIs(is_name(name), False, ascii(name))

    def test_any_value(self):
        for value in (*ODD_VALUES, ("a",), ["a"], b"abc", 7, {"a"}):
            self.assertIs(is_name(value), False)


class RowsTest(unittest.TestCase):
    def test_rows(self):
        for row in ROWS:
            self.assertIs(is_row(row), True, row)
            self.assertIs(is_made_row(row), True, row)

    def test_calls(self):
        for row in CALLS:
            self.assertIs(is_row(row), False, row)
            self.assertIs(is_made_row(row), True, row)

    def test_no_rows(self):
        for row in (*NO_ROWS, *NO_CALLS):
            self.assertIs(is_row(row), False, row)
            self.assertIs(is_made_row(row), False, row)

    def test_any_value(self):
        for value in ODD_VALUES:
            self.assertIs(is_row(value), False)
            self.assertIs(is_made_row(value), False)

    def test_any_value_as_a_part(self):
        for value in ODD_VALUES:
            for row in (
                (value, "x", "y"), ("copy", value, "y"), ("copy", "x", value), ("set", value, "f", ()),
                ("set", "x", value, ()), ("set", "x", "f", (value,)), ("set", "x", "f", ("x", value)),
                ("call", "x", "f", (), (value,)), ("call", value, "f", (), ()), (value, "x", "f", (), ()),
            ):
                self.assertIs(is_row(row), False)
                self.assertIs(is_made_row(row), False)

    def test_any_value_as_operands(self):
        for value in ODD_VALUES:
            are_operands = isinstance(value, tuple)
            self.assertIs(is_row(("set", "x", "f", value)), are_operands)
            self.assertIs(is_made_row(("call", "x", "f", (), value)), are_operands)


class EndsTest(unittest.TestCase):
    def test_ends(self):
        for end in (("go", "a"), ("either", "a", "b"), ("return", "x"), ("go", "go"), ("either", "either", "go")):
            self.assertIs(is_end(end), True, end)

    def test_no_ends(self):
        for end in (
            ("either", "a", "a"), ("either", "a"), ("either", "a", "b", "c"), ("go",), ("go", "a", "b"), ["go", "a"],
            ("go", "A"), ("go", 1), ("return",), ("return", "x", "y"), ("return", ""), ["return", "x"],
            ("return", None), ("either", "a", ["b"]), ("either", ["a"], ["b"]), ("stop", "a"), ("Go", "a"),
            (["go"], "a"), ("copy", "a", "b"), "go",
        ):
            self.assertIs(is_end(end), False, end)

    def test_any_value(self):
        for value in ODD_VALUES:
            for end in (
                value, (value, "a"), ("go", value), ("return", value), ("either", value, "a"),
                ("either", "a", value), ("either", value, value), (value, "a", "b"),
            ):
                self.assertIs(is_end(end), False)


class PartsTest(unittest.TestCase):
    def test_reads(self):
        self.assertEqual(reads(("set", "x", "f", ())), ())
        self.assertEqual(reads(("set", "x", "f", ("z", "y"))), ("z", "y"))
        self.assertEqual(reads(("set", "x", "f", ("y", "y"))), ("y", "y"))
        self.assertEqual(reads(("copy", "x", "y")), ("y",))
        self.assertEqual(reads(("copy", "x", "x")), ("x",))
        self.assertEqual(reads(("call", "p", "f", ("r", "q"), ("s",))), ("r", "q"))
        self.assertEqual(reads(("call", "p", "f", (), ("s",))), ())

    def test_sets(self):
        self.assertEqual(sets(("set", "x", "f", ("y",))), "x")
        self.assertEqual(sets(("copy", "x", "y")), "x")
        self.assertEqual(sets(("call", "p", "f", ("q",), ("r",))), "p")

    def test_results_are_tuples(self):
        for row in (*ROWS, *CALLS):
            self.assertIsInstance(reads(row), tuple)

    def test_by_name(self):
        self.assertTrue(is_name(value="a"))
        self.assertTrue(is_row(value=ROWS[0]))
        self.assertTrue(is_made_row(value=CALLS[0]))
        self.assertTrue(is_end(value=("go", "a")))
        self.assertEqual(reads(row=("copy", "x", "y")), ("y",))
        self.assertEqual(sets(row=("copy", "x", "y")), "x")


if __name__ == "__main__":
    unittest.main()
