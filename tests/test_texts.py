"""Texts of rows and sources, and sources from texts."""

import random
import unittest

from tests.brute import random_made, random_source, some_made
from tests.values import ODD_VALUES, doc_source, ring_made, ring_source, unreached_source
from valueshown.errors import BadBlock, BadInput, BadText, TooMany, UnknownBlock
from valueshown.sources import Source
from valueshown.telling import tellings
from valueshown.texts import read_source, write_entry, write_row, write_source

DOC_TEXT = "inputs i\nblock a\n  x = f(i)\n  y = x\n  return y"
RING_TEXT = "\n".join([
    "inputs i, j", "block a", "  x = f(i, j)", "  y = x", "  either b c", "block b", "  x = g(x)", "  i = h()",
    "  x = g(x)", "  either c a", "block c", "  return x",
])

# Rows of a block that are not written as such.
WRONG_ROWS = [
    "", " ", "  ", "x = y", " x = y", "   x = y", "\tx = y", "  x = y ", "  x  = y", "  x =  y", "  x=y", "  x =y",
    "  x= y", "  x = ", "  x =", "  = y", "  x = y z", "  X = y", "  x = Y", "  x = 1", "  x = abcdefghi", "  x",
    "  x = f(", "  x = f)", "  x = f()()", "  x = (i)", "  x = f (i)", "  x = f( i)", "  x = f(i )", "  x = f(i,j)",
    "  x = f(i,  j)", "  x = f(i, j, i)", "  x = f(i,)", "  x = f(, i)", "  x = f(,)", "  x = f( )", "  x = f(I)",
    "  x = f(i) ", "  x = f(i) call", "  x = f() call keeps y", "  x = f(i", "  x = fi)", "  x == y", "  x = y = z",
    "  x = f(i) = y", "  abcdefghi = x", "  x = f((i))", "  x = f(g(i))", "  x = y\r", "  x = y\t", "  x = f(i)\r",
    "  go", "  go ", "  go A", "  go a b", "  go  a", "go a", "   go a", "  go a ", "  gO a", "  either a", "  either a a",
    "  either a b c", "  either a  b", "  either a, b", "  return", "  return x y", "  return x, y", "  return f(x)",
    "  return 1", "  end", "  stop a", "block b", "block", "  block b", "inputs x", "#", "  # x", "  set x f i",
    "  x = \u00e9", "  \uff58 = y", "  x = f(i\u00a0)",
]


class WriteTest(unittest.TestCase):
    def test_example_of_the_document(self):
        self.assertEqual(write_source(doc_source()), DOC_TEXT)
        self.assertEqual(write_source(source=ring_source()), RING_TEXT)

    def test_rows(self):
        for row, text in (
            (("copy", "x", "y"), "x = y"), (("set", "x", "f", ()), "x = f()"), (("set", "x", "f", ("y",)), "x = f(y)"),
            (("set", "x", "op", ("y", "z")), "x = op(y, z)"), (("call", "p", "f", (), ()), "p = f() call"),
            (("call", "p", "f", ("p", "q"), ()), "p = f(p, q) call"),
            (("call", "p", "op", ("a",), ("q", "r")), "p = op(a) call keeps q, r"),
            (("call", "p", "f", (), ("q",)), "p = f() call keeps q"),
            (("call", "p", "f", (), ("q", "a", "p")), "p = f() call keeps q, a, p"),
            (("copy", "copy", "copy"), "copy = copy"), (("set", "set", "call", ("keeps",)), "set = call(keeps)"),
        ):
            self.assertEqual(write_row(row), text)
            self.assertEqual(write_row(row=row), text)

    def test_entries(self):
        for entry, text in (
            ("p", "p"), (("f",), "f()"), (("f", "p"), "f(p)"), (("op", "p", "q"), "op(p, q)"), (("f", "p", "p"), "f(p, p)"),
        ):
            self.assertEqual(write_entry(entry), text)
            self.assertEqual(write_entry(entry=entry), text)

    def test_all_entries_and_rows_are_written_apart(self):
        for made in some_made(110, 10):
            entries = tellings(made)
            self.assertEqual(len({write_entry(entry) for entry in entries}), len(entries))
            rows = {row for block in made.source.blocks() for row in made.rows(block)}
            self.assertEqual(len({write_row(row) for row in rows}), len(rows))

    def test_sources(self):
        self.assertEqual(write_source(Source([("a", (), ("go", "a"))])), "inputs\nblock a\n  go a")
        self.assertEqual(write_source(Source([("a", (), ("return", "x"))], ["y", "x"])),
                         "inputs y, x\nblock a\n  return x")
        self.assertEqual(write_source(unreached_source()).split("\n")[4:8], ["block b", "  y = f(x)", "  go d", "block c"])

    def test_nothing_changes(self):
        source = ring_source()
        write_source(source)
        self.assertEqual(source, ring_source())
        self.assertEqual(write_row(ring_made().rows("a")[0]), "r = f(p, q) call keeps p, e")


class ReadTest(unittest.TestCase):
    def check(self, text, line):
        with self.assertRaises(BadText) as caught:
            read_source(text)
        self.assertEqual((caught.exception.line, type(caught.exception.line)), (line, type(line)), text)

    def test_what_is_written_is_read_back(self):
        self.assertEqual(read_source(DOC_TEXT), doc_source())
        self.assertEqual(read_source(text=RING_TEXT), ring_source())
        rng = random.Random(111)
        for _ in range(200):
            source = random_source(rng, 8, 6)
            self.assertEqual(read_source(write_source(source)), source)

    def test_words_that_mean_something_are_names_too(self):
        words = ["inputs", "block", "go", "either", "return", "set", "copy", "call"]
        rows = tuple(("copy", one, other) for one, other in zip(words, words[1:]))[:5]
        source = Source([
            ("block", rows, ("either", "inputs", "return")), ("inputs", (("set", "go", "go", ("go",)),), ("go", "go")),
            ("go", (("set", "return", "return", ()),), ("return", "return")), ("return", (), ("return", "block")),
        ], ["inputs", "return"])
        self.assertEqual(read_source(write_source(source)), source)
        self.assertIn("  go = go(go)\n  go go", write_source(source))

    def test_values_that_are_no_text(self):
        for value in ODD_VALUES + (DOC_TEXT.encode(), DOC_TEXT.split("\n"), [DOC_TEXT], (DOC_TEXT,), doc_source()):
            if not isinstance(value, str):
                self.check(value, None)

    def test_the_first_row(self):
        rest = "\nblock a\n  return x"
        for line in (
            "", " ", "inputs ", "inputs  x", "inputs x ", "inputs x,y", "inputs x, ", "inputs x,  y", "inputs , x", "inputs X",
            "inputs x y", "input x", "Inputs", " inputs", "inputs\t", "inputs x, y,", "inputs abcdefghi", "inputs 1", "block a",
            "inputs,", "inputs: x", "inputs\r",
        ):
            self.check(line + rest, 0)
            self.check(line, 0)
        self.check("", 0)
        self.check("\n" + DOC_TEXT, 0)

    def test_wrong_rows_of_blocks(self):
        right = ["inputs i, j", "block a", "  x = f(i)", "  y = x", "  go b", "block b", "  x = f(x, y)", "  return x"]
        self.assertEqual(len(read_source("\n".join(right))), 2)
        for at in (2, 3, 4, 6, 7):
            for row in WRONG_ROWS:
                self.check("\n".join(right[:at] + [row] + right[at:]), at)
                self.check("\n".join(right[:at] + [row] + right[at + 1:]), at)
                self.check("\n".join(right[:at] + [row] + right[at:] + ["wrong"]), at)

    def test_wrong_rows_between_blocks(self):
        right = ["inputs i", "block a", "  x = f(i)", "  go b", "block b", "  return x"]
        for at in (1, 4, 6):
            for row in (
                "", " ", "block", "block ", "block A", "block a b", "block  b", " block b", "  block b", "Block b",
                "block b ", "block b:", "block abcdefghi", "block 1", "inputs i", "  x = y", "  go a", "  return x", "b",
                "block\tb", "block b\r",
            ):
                self.check("\n".join(right[:at] + [row] + right[at:]), at)
                if at < 6:
                    self.check("\n".join(right[:at] + [row] + right[at + 1:]), at)
        self.check(DOC_TEXT + "\n", 5)

    def test_no_end(self):
        lines = RING_TEXT.split("\n")
        ends = {"  either b c", "  either c a", "  return x"}
        for many in range(2, len(lines)):
            if lines[many - 1] in ends:
                continue
            self.check("\n".join(lines[:many]), many)
        self.check("inputs\nblock a", 2)
        self.check("inputs\nblock a\n  x = y\n  x = y", 4)
        # An end that is missing ahead of another block: the row of that block is none of this one.
        self.check("\n".join(line for line in lines if line != "  either b c"), 4)

    def test_what_the_class_refuses(self):
        with self.assertRaises(BadBlock) as caught:
            read_source("inputs")
        self.assertEqual(caught.exception.index, None)
        with self.assertRaises(BadBlock) as caught:
            read_source("inputs i")
        self.assertEqual(caught.exception.index, None)
        rows = ["  x = y"] * 7
        with self.assertRaises(BadBlock) as caught:
            read_source("\n".join(["inputs", "block b", "  go a", "block a", *rows, "  go b"]))
        self.assertEqual(caught.exception.index, 1)
        self.assertEqual(len(read_source("\n".join(["inputs", "block a", *rows[:6], "  go a"])).rows("a")), 6)
        with self.assertRaises(BadBlock) as caught:
            read_source("inputs x, x\nblock a\n  go z\nblock a\n  go a")
        self.assertEqual(caught.exception.index, 1)
        blocks = "".join(f"\nblock {name}\n  go {name}" for name in "abcdefghi")
        with self.assertRaises(TooMany) as caught:
            read_source("inputs" + blocks)
        self.assertEqual(caught.exception.limit, 8)
        with self.assertRaises(UnknownBlock) as caught:
            read_source("inputs x, x\nblock a\n  go z")
        self.assertEqual(caught.exception.block, "z")
        with self.assertRaises(BadInput) as caught:
            read_source("inputs x, y, x\nblock a\n  go a")
        self.assertEqual(caught.exception.index, 2)
        with self.assertRaises(TooMany) as caught:
            read_source("inputs a, b, c, d, e, f, g\nblock a\n  go a")
        self.assertEqual(caught.exception.limit, 6)
        # The text comes first.
        self.check("inputs x, x\nblock a\n  go z\nblock a", 4)

    def test_one_letter_changed(self):
        rng = random.Random(112)
        for _ in range(400):
            at = rng.randrange(len(RING_TEXT))
            text = RING_TEXT[:at] + rng.choice(" \n=(),abxZ\t") + RING_TEXT[at + rng.randint(0, 1):]
            try:
                source = read_source(text)
            except (BadText, BadBlock, BadInput, TooMany, UnknownBlock):
                continue
            self.assertEqual(write_source(source), text)

    def test_random_sources_differ(self):
        rng = random.Random(113)
        one, other = random_made(rng).source, random_made(rng).source
        self.assertNotEqual(write_source(one), write_source(other))


if __name__ == "__main__":
    unittest.main()
