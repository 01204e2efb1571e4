"""Sources: their errors, and what they tell."""

import unittest

from tests.values import DOC_BLOCKS, ODD_VALUES, LikeAll, doc_source
from valueshown.errors import BadBlock, BadInput, TooMany, UnknownBlock
from valueshown.sources import Source

ROW = ("copy", "x", "y")
GOOD = ("a", (), ("go", "a"))


def ring(many):
    """So many blocks, each of which goes to the next one, the last one to the first one."""
    names = [chr(ord("a") + at) for at in range(many)]
    return [(name, (), ("go", names[(at + 1) % many])) for at, name in enumerate(names)]


def branching():
    """A source with several ways, a ring, and two blocks to which no way leads."""
    return Source([
        ("start", (("copy", "x", "i"),), ("either", "right", "left")),
        ("left", (), ("either", "low", "right")),
        ("right", (("set", "y", "f", ("x", "x")),), ("either", "left", "far")),
        ("low", (), ("return", "z")),
        ("far", (), ("go", "start")),
        ("lone", (("set", "u", "g", ()),), ("either", "low", "alone")),
        ("alone", (), ("go", "lone")),
    ], ["i", "j"])


class SourceErrorsTest(unittest.TestCase):
    def check(self, error, attribute, value, *args, **more):
        with self.assertRaises(error) as caught:
            Source(*args, **more)
        kept = getattr(caught.exception, attribute)
        self.assertEqual((kept, kept is True), (value, value is True))

    def test_blocks_no_list(self):
        for value in (None, True, 3, "a", b"a", {}, {"a": GOOD}, {"a"}, object(), LikeAll()):
            self.check(BadBlock, "index", None, value)
            self.check(BadBlock, "index", None, value, None)

    def test_block_of_another_form(self):
        for entry in (
            ["a", (), ("go", "a")], ("a", ()), ("a", (), ("go", "a"), ()), (), ("A", (), ("go", "a")),
            ("", (), ("go", "a")), (["a"], (), ("go", "a")), ("a", [], ("go", "a")), ("a", [ROW], ("go", "a")),
            ("a", (["copy", "x", "y"],), ("go", "a")), ("a", (ROW, ("copy", "x")), ("go", "a")),
            ("a", ROW, ("go", "a")), ("a", (), ["go", "a"]), ("a", (), ("go",)), ("a", (), ("either", "a", "a")),
            ("a", (), None), ("a", (("call", "x", "f", (), ()),), ("go", "a")), ("a", (True,), ("go", "a")),
            ("a", None, ("go", "a")), ("a", (ROW,) * 7, ("go", "a")),
        ):
            self.check(BadBlock, "index", 0, [entry])
            self.check(BadBlock, "index", 1, [("b", (), ("go", "b")), entry])

    def test_any_value_as_a_block(self):
        for value in ODD_VALUES:
            self.check(BadBlock, "index", 1, [GOOD, value])
            self.check(BadBlock, "index", 1, [GOOD, (value, (), ("go", "a"))])
            self.check(BadBlock, "index", 1, [GOOD, ("b", (), value)])
            self.check(BadBlock, "index", 1, [GOOD, ("b", (value,), ("go", "a"))])

    def test_name_of_an_earlier_block(self):
        self.check(BadBlock, "index", 1, [GOOD, GOOD])
        self.check(BadBlock, "index", 2, [GOOD, ("b", (), ("go", "a")), ("a", (ROW,), ("go", "b")), None])

    def test_first_block_that_does_not_fit(self):
        self.check(BadBlock, "index", 1, [GOOD, None, GOOD])

    def test_six_and_seven_rows(self):
        self.assertEqual(len(Source([("a", (ROW,) * 6, ("go", "a"))]).rows("a")), 6)
        self.check(BadBlock, "index", 0, [("a", (ROW,) * 7, ("go", "a"))])

    def test_eight_and_nine_blocks(self):
        self.assertEqual(len(Source(ring(8))), 8)
        self.check(TooMany, "limit", 8, ring(9))

    def test_a_wrong_ninth_block_comes_first(self):
        self.check(BadBlock, "index", 8, [*ring(8), None])
        self.check(BadBlock, "index", 8, [*ring(8), GOOD])

    def test_no_blocks(self):
        self.check(BadBlock, "index", None, [])
        self.check(BadBlock, "index", None, (), None)

    def test_unknown_block_in_an_end(self):
        self.check(UnknownBlock, "block", "b", [("a", (), ("go", "b"))])
        self.check(UnknownBlock, "block", "c", [("a", (), ("either", "a", "c"))])
        self.check(UnknownBlock, "block", "d", [("a", (), ("either", "d", "c"))])
        self.check(UnknownBlock, "block", "e", [("a", (), ("go", "b")), ("b", (), ("go", "e")), ("c", (), ("go", "d"))])

    def test_a_returned_name_is_no_block(self):
        self.assertEqual(Source([("a", (), ("return", "b"))]).names(), ["b"])

    def test_order_of_the_errors_of_blocks(self):
        nine = ring(9)
        nine[0] = ("a", (), ("go", "zz"))
        self.check(TooMany, "limit", 8, nine)
        self.check(BadBlock, "index", 1, [("a", (), ("go", "zz")), None])
        self.check(UnknownBlock, "block", "zz", [("a", (), ("go", "zz"))], None)
        self.check(UnknownBlock, "block", "zz", [("a", (), ("go", "zz"))], [1])
        self.check(TooMany, "limit", 8, ring(9), None)

    def test_inputs_no_list(self):
        for value in (None, True, 3, "i", b"a", {}, {"i": 1}, {"i"}, object(), LikeAll()):
            self.check(BadInput, "index", None, DOC_BLOCKS, value)

    def test_input_that_is_no_name(self):
        for value in ODD_VALUES:
            self.check(BadInput, "index", 0, DOC_BLOCKS, [value])
            self.check(BadInput, "index", 2, DOC_BLOCKS, ["i", "j", value, "i"])

    def test_input_like_an_earlier_one(self):
        self.check(BadInput, "index", 1, DOC_BLOCKS, ["i", "i", "I"])
        self.check(BadInput, "index", 2, DOC_BLOCKS, ["i", "j", "i"])

    def test_six_and_seven_inputs(self):
        self.assertEqual(Source(DOC_BLOCKS, list("abcdef")).inputs, tuple("abcdef"))
        self.check(TooMany, "limit", 6, DOC_BLOCKS, list("abcdefg"))
        self.check(BadInput, "index", 7, DOC_BLOCKS, [*"abcdefg", "a"])


class SourceTest(unittest.TestCase):
    def test_example_of_the_document(self):
        s = doc_source()
        self.assertEqual(
            [s.names(), s.rows("a"), s.reached()],
            [["i", "x", "y"], (("set", "x", "f", ("i",)), ("copy", "y", "x")), ["a"]],
        )

    def test_parts(self):
        s = branching()
        self.assertEqual(s.blocks(), ["start", "left", "right", "low", "far", "lone", "alone"])
        self.assertEqual(s.inputs, ("i", "j"))
        self.assertEqual(s["right"], ((("set", "y", "f", ("x", "x")),), ("either", "left", "far")))
        self.assertIsInstance(s["right"], tuple)
        self.assertEqual(s.rows("left"), ())
        self.assertEqual(s.end("low"), ("return", "z"))
        self.assertEqual(len(s), 7)

    def test_inputs_may_be_left_out(self):
        self.assertEqual(Source(DOC_BLOCKS).inputs, ())
        self.assertIsInstance(Source(DOC_BLOCKS, ["i"]).inputs, tuple)

    def test_tuples_where_lists_are_asked_for(self):
        self.assertEqual(Source(tuple(DOC_BLOCKS), ("i",)), doc_source())

    def test_arguments_by_name(self):
        s = Source(inputs=["i"], blocks=DOC_BLOCKS)
        self.assertEqual(s, doc_source())
        self.assertEqual(s.rows(block="a"), s["a"][0])
        self.assertEqual(s.end(block="a"), s["a"][1])
        self.assertEqual(s.nexts(block="a"), [])

    def test_nexts(self):
        s = branching()
        self.assertEqual(s.nexts("start"), ["right", "left"])
        self.assertEqual(s.nexts("left"), ["low", "right"])
        self.assertEqual(s.nexts("far"), ["start"])
        self.assertEqual(s.nexts("low"), [])

    def test_names(self):
        self.assertEqual(branching().names(), ["i", "j", "u", "x", "y", "z"])
        self.assertEqual(Source([("a", (("set", "v", "op", ("w", "i")),), ("go", "a"))]).names(), ["i", "v", "w"])
        self.assertEqual(Source([GOOD]).names(), [])

    def test_in(self):
        s = branching()
        for block in s.blocks():
            self.assertIs(block in s, True)
        for value in (*ODD_VALUES, "x", "f", "right ", "i"):
            self.assertIs(value in s, False)

    def test_unknown_blocks(self):
        s = branching()
        for value in (*ODD_VALUES, "x", "startt", ("start",), ["start"], 0):
            for ask in (s.rows, s.end, s.nexts, s.__getitem__):
                with self.assertRaises(UnknownBlock) as caught:
                    ask(value)
                self.assertTrue(caught.exception.block is value)

    def test_reached(self):
        self.assertEqual(branching().reached(), ["start", "right", "left", "far", "low"])
        self.assertEqual(Source(ring(8)).reached(), list("abcdefgh"))
        self.assertEqual(Source([("b", (), ("go", "b")), GOOD]).reached(), ["b"])

    def test_reached_by_fewest_blocks(self):
        s = Source([
            ("a", (), ("either", "e", "b")), ("b", (), ("either", "d", "c")), ("c", (), ("return", "x")),
            ("d", (), ("go", "c")), ("e", (), ("either", "b", "f")), ("f", (), ("go", "c")),
        ])
        self.assertEqual(s.reached(), ["a", "e", "b", "f", "d", "c"])

    def test_cannot_be_iterated(self):
        with self.assertRaises(TypeError):
            iter(doc_source())
        with self.assertRaises(TypeError):
            list(doc_source())
        with self.assertRaises(TypeError):
            for _ in doc_source():
                pass

    def test_equal(self):
        self.assertTrue(doc_source() == doc_source())
        self.assertFalse(doc_source() != doc_source())
        self.assertTrue(branching() == branching())

    def test_unequal(self):
        blocks = [("a", (ROW,), ("go", "b")), ("b", (), ("go", "a"))]
        s = Source(blocks, ["i", "j"])
        for other in (
            Source(blocks[::-1], ["i", "j"]), Source(blocks, ["j", "i"]), Source(blocks, ["i"]), Source(blocks),
            Source([blocks[0], ("b", (), ("go", "b"))], ["i", "j"]),
            Source([blocks[0], ("b", (ROW,), ("go", "a"))], ["i", "j"]),
            Source([*blocks, ("c", (), ("go", "a"))], ["i", "j"]),
        ):
            self.assertIs(s == other, False)
            self.assertIs(other == s, False)

    def test_unequal_to_other_classes(self):
        for value in (None, True, 1, "a", (), [], {}, LikeAll(), object(), doc_source().blocks(), DOC_BLOCKS):
            self.assertIs(doc_source() == value, False)
            self.assertIs(doc_source() != value, True)

    def test_keeps_nothing_that_was_handed_in(self):
        blocks = list(DOC_BLOCKS)
        inputs = ["i"]
        s = Source(blocks, inputs)
        self.assertEqual((blocks, inputs), (DOC_BLOCKS, ["i"]))
        blocks.append(GOOD)
        blocks[0] = None
        inputs.append("j")
        self.assertEqual(s, doc_source())
        self.assertEqual((s.blocks(), s.inputs, s.names(), len(s)), (["a"], ("i",), ["i", "x", "y"], 1))

    def test_returned_lists_are_new(self):
        s = branching()
        for ask in (s.blocks, s.names, s.reached, lambda: s.nexts("start")):
            first = ask()
            self.assertIsInstance(first, list)
            as_it_was = list(first)
            first.append("more")
            first[0] = None
            self.assertEqual(ask(), as_it_was)
        self.assertEqual(s, branching())


if __name__ == "__main__":
    unittest.main()
