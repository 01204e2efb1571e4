"""Made codes: their errors, and what they tell."""

import unittest

from tests.values import ODD_VALUES, LikeAll, doc_made, doc_source, ring_made, ring_parts, ring_source
from valueshown.errors import BadInput, BadLabels, BadRow, BadShown, BadStop, UnknownBlock, UnknownName
from valueshown.made import Made
from valueshown.sources import Source

ROW = ("copy", "p", "q")
RETURN = ("return", "p")
# No stop of the document's made code, whose block `a` has the stops 0 and 1.
NO_STOPS = (
    *ODD_VALUES, "a", ("a",), ("a", 0, 0), ["a", 0], ("b", 0), ("a", 2), ("a", -1), ("a", True), ("a", False),
    ("a", "0"), ("a", None), ("a", [0]), (["a"], 0), (0, "a"), ("a", 1.0), (LikeAll(), 0), ("a", LikeAll()),
)


class Caught:
    """Helps to test an error and what it keeps."""

    def check(self, error, value, call, *args, **more):
        with self.assertRaises(error) as caught:
            call(*args, **more)
        kept = list(vars(caught.exception).values())
        self.assertEqual(len(kept), 1)
        self.assertTrue(kept[0] is value or (not isinstance(value, bool) and kept[0] == value), (kept[0], value))


class MadeErrorsTest(Caught, unittest.TestCase):
    def changed(self, part, **more):
        """The arguments for the ring's made code, one part of one of its dicts being other."""
        parts = dict(zip(("blocks", "labels", "lies"), ring_parts()))
        parts[part].update(more)
        return {"source": ring_source(), **parts}

    def test_block_that_is_missing(self):
        blocks, labels, lies = ring_parts()
        self.check(UnknownBlock, "b", Made, ring_source(), {"z": (), "a": None}, labels, lies)
        self.check(UnknownBlock, "a", Made, ring_source(), {}, labels, lies)
        del blocks["c"]
        self.check(UnknownBlock, "c", Made, ring_source(), blocks, labels, lies)

    def test_block_that_is_none_of_the_source(self):
        blocks, labels, lies = ring_parts()
        for key in ("d", "", None, 3, True, ("a",), "A"):
            self.check(UnknownBlock, key, Made, ring_source(), {**blocks, key: ()}, labels, lies)
        self.check(UnknownBlock, "z", Made, ring_source(), {"z": None, **blocks, "y": ()}, labels, lies)

    def test_rows_that_are_wrong(self):
        for rows in (
            *ODD_VALUES[:5], [], [ROW], (["copy", "p", "q"],), (ROW, ("copy", "p")), (None,), ROW, "", {},
            (("set", "p", "f", ("a", "b", "c")),), (("call", "p", "f", ()),), (("call", "p", "f", (), ("q", "q")),),
        ):
            self.check(BadRow, "a", Made, **self.changed("blocks", a=rows))

    def test_any_value_as_rows_and_as_a_row(self):
        for value in ODD_VALUES:
            self.check(BadRow, "b", Made, **self.changed("blocks", b=(ROW, value)))
            self.check(BadRow, "c", Made, **self.changed("blocks", c=value))
            self.check(BadRow, "c", Made, **self.changed("blocks", c=(value,)))
            self.check(BadRow, "c", Made, **self.changed("blocks", c=(("return", value),)))
            self.check(BadRow, "c", Made, **self.changed("blocks", c=(RETURN, value)))

    def test_first_block_with_wrong_rows(self):
        self.check(BadRow, "b", Made, **self.changed("blocks", b=None, c=None))
        blocks, labels, lies = ring_parts()
        self.check(BadRow, "b", Made, ring_source(), {"c": None, "b": None, "a": ()}, labels, lies)

    def test_return_where_the_source_has_none(self):
        self.check(BadRow, "a", Made, **self.changed("blocks", a=(ROW, RETURN)))
        self.check(BadRow, "b", Made, **self.changed("blocks", b=(RETURN,)))

    def test_no_return_where_the_source_has_one(self):
        for rows in ((), (ROW,), (RETURN, ROW), (RETURN, RETURN), (["return", "p"],), (("return", "p", "q"),)):
            self.check(BadRow, "c", Made, **self.changed("blocks", c=rows))

    def test_sixteen_and_seventeen_rows(self):
        self.check(BadRow, "a", Made, **self.changed("blocks", a=(ROW,) * 17))
        self.check(BadRow, "c", Made, **self.changed("blocks", c=(ROW,) * 17 + (RETURN,)))
        self.check(BadLabels, "a", Made, **self.changed("blocks", a=(ROW,) * 16))
        parts = self.changed("blocks", a=(ROW,) * 16, c=(ROW,) * 16 + (RETURN,))
        parts["labels"] = {**parts["labels"], "a": (2,) * 17, "c": (0,) * 17}
        made = Made(**parts)
        self.assertEqual((len(made.rows("a")), len(made.rows("c")), made.returned("c")), (16, 16, "p"))

    def test_labels_that_are_wrong(self):
        for labels in (
            (0, 2), (0, 1, 2, 2), (0, 1, 3), (0, 3, 2), (-1, 1, 2), (0, 1, 1), (2, 1, 0), (0, True, 2),
            (False, 1, 2), (0, 1, "2"), (0, None, 2), (0, [1], 2), [0, 1, 2], (), None, 2, "abc", (0, 1, LikeAll()),
        ):
            self.check(BadLabels, "a", Made, **self.changed("labels", a=labels))
        self.check(BadLabels, "c", Made, **self.changed("labels", c=(False,)))
        self.check(BadLabels, "c", Made, **self.changed("labels", c=()))

    def test_label_of_the_last_stop(self):
        for last in (0, 1, 2, 4):
            self.check(BadLabels, "b", Made, **self.changed("labels", b=(0, 0, last)))

    def test_labels_may_fall(self):
        made = Made(**self.changed("labels", a=(2, 0, 2), b=(3, 3, 3)))
        self.assertEqual((made.labels("a"), made.labels("b")), ((2, 0, 2), (3, 3, 3)))

    def test_labels_that_are_missing(self):
        blocks, labels, lies = ring_parts()
        self.check(BadLabels, "a", Made, ring_source(), blocks, {}, lies)
        del labels["b"]
        self.check(BadLabels, "b", Made, ring_source(), blocks, {"c": None, **labels}, lies)

    def test_other_labels_do_not_matter(self):
        made = Made(**self.changed("labels", d=(0, 1), e=None))
        self.assertEqual(made, Made(**self.changed("labels")))

    def test_input_without_a_place(self):
        for value in ODD_VALUES:
            self.check(BadInput, 1, Made, **self.changed("lies", j=value))
        for value in ("P", "abcdefghi", ("p",), "p "):
            self.check(BadInput, 0, Made, **self.changed("lies", i=value))
        blocks, labels, _ = ring_parts()
        self.check(BadInput, 0, Made, ring_source(), blocks, labels, {"z": "z"})
        self.check(BadInput, 1, Made, ring_source(), blocks, labels, {"i": "p"})

    def test_two_inputs_in_one_place(self):
        self.check(BadInput, 1, Made, **self.changed("lies", j="p"))
        self.check(BadInput, 1, Made, **self.changed("lies", j="p", x="s"))

    def test_a_name_that_is_no_input(self):
        for key in ("x", "z", "", None, 3, ("i",)):
            blocks, labels, lies = ring_parts()
            self.check(BadInput, None, Made, ring_source(), blocks, labels, {key: "t", **lies})

    def test_entries(self):
        for entries in (
            None, True, 3, "e", [], ["e"], {}, {"e"}, ("e", "e"), ("d", "e", "d"), ("E",), (1,), (None,), (["e"],),
            ("p",), ("e", "q"), (LikeAll(),), ("abcdefghi",),
        ):
            self.check(BadShown, entries, Made, **self.changed("lies"), entries=entries)

    def test_entries_by_name_only(self):
        with self.assertRaises(TypeError):
            Made(ring_source(), *ring_parts(), ("e",))

    def test_order_of_the_errors(self):
        source = ring_source()
        blocks, labels, lies = ring_parts()
        self.check(UnknownBlock, "c", Made, source, {"z": (), "a": None, "b": ()}, {}, {}, entries=None)
        self.check(UnknownBlock, "z", Made, source, {"a": None, "z": (), "b": (), "c": ()}, {}, {}, entries=None)
        self.check(BadRow, "c", Made, source, {**blocks, "c": ()}, {}, {}, entries=None)
        self.check(BadLabels, "c", Made, source, blocks, {**labels, "c": ()}, {"z": 1}, entries=None)
        self.check(BadInput, 1, Made, source, blocks, labels, {"z": "p", "i": "p"}, entries=None)
        self.check(BadInput, None, Made, source, blocks, labels, {"z": "p", **lies}, entries=None)
        self.check(BadShown, None, Made, source, blocks, labels, lies, entries=None)


class MadeTest(Caught, unittest.TestCase):
    def test_example_of_the_document(self):
        made = doc_made()
        self.assertEqual(
            [made.stops("a"), made.label(("a", 1)), made.places()], [[("a", 0), ("a", 1)], 2, ["p", "q"]]
        )

    def test_parts(self):
        made = ring_made()
        blocks, labels, _ = ring_parts()
        self.assertEqual(made.source, ring_source())
        self.assertEqual(made.entries, ("e", "d"))
        self.assertEqual(doc_made().entries, ())
        for block in "abc":
            self.assertEqual(made.labels(block), labels[block])
        self.assertEqual((made.rows("a"), made.rows("b"), made.rows("c")), (blocks["a"], blocks["b"], ()))
        self.assertEqual(doc_made().rows("a"), (("set", "p", "f", ("q",)),))
        self.assertEqual([made.returned(block) for block in "abc"], [None, None, "r"])
        self.assertEqual(made.stops("b"), [("b", 0), ("b", 1), ("b", 2)])
        self.assertEqual(made.stops("c"), [("c", 0)])
        self.assertEqual([made.label(stop) for stop in made.stops("b")], [1, 0, 3])
        self.assertEqual((made.place_of("i"), made.place_of("j")), ("p", "q"))

    def test_all_stops(self):
        blocks, labels, lies = ring_parts()
        backwards = {block: blocks[block] for block in "cba"}
        made = Made(ring_source(), backwards, labels, lies)
        self.assertEqual(made.all_stops(), [*made.stops("a"), *made.stops("b"), ("c", 0)])

    def test_places(self):
        s = Source([("b", (), ("go", "a")), ("a", (), ("return", "x"))], ["i"])
        made = Made(
            s, {"b": (("call", "k", "f", ("c", "m"), ("z", "b")),), "a": (("copy", "t", "u"), ("return", "o"))},
            {"b": (0, 0), "a": (0, 0)}, {"i": "l"}, entries=("w", "a"),
        )
        self.assertEqual(made.places(), ["a", "b", "c", "k", "l", "m", "o", "t", "u", "w", "z"])
        made = Made(Source([("a", (), ("go", "a"))]), {"a": ()}, {"a": (0,)}, {})
        self.assertEqual((made.places(), made.rows("a"), made.returned("a")), ([], (), None))

    def test_arguments_by_name(self):
        blocks, labels, lies = ring_parts()
        made = Made(lies=lies, labels=labels, blocks=blocks, source=ring_source(), entries=("e", "d"))
        self.assertEqual(made, ring_made())
        self.assertEqual(made.rows(block="a"), blocks["a"])
        self.assertEqual(made.returned(block="c"), "r")
        self.assertEqual(made.labels(block="a"), (0, 1, 2))
        self.assertEqual(made.stops(block="c"), [("c", 0)])
        self.assertEqual(made.label(stop=("a", 2)), 2)
        self.assertEqual(made.place_of(name="i"), "p")
        self.assertEqual(Made.plain(source=ring_source()), Made.plain(ring_source()))
        self.assertEqual(made.with_rows(labels=(2,), rows=(), block="a"), made.with_rows("a", (), (2,)))
        self.assertEqual(made.with_copy(spare="z", place="p", stop=("a", 0)), made.with_copy(("a", 0), "p", "z"))

    def test_unknown_blocks(self):
        made = ring_made()
        for value in (*ODD_VALUES, "d", "x", "p", ("a",)):
            for ask in (made.rows, made.returned, made.labels, made.stops, lambda block: made.with_rows(block, 1, 1)):
                self.check(UnknownBlock, value, ask, value)

    def test_no_stops(self):
        made = doc_made()
        for value in NO_STOPS:
            self.check(BadStop, value, made.label, value)

    def test_unknown_names(self):
        made = ring_made()
        for value in (*ODD_VALUES, "x", "y", "p", "z"):
            self.check(UnknownName, value, made.place_of, value)

    def test_equal(self):
        self.assertIs(ring_made() == ring_made(), True)
        self.assertIs(ring_made() != ring_made(), False)
        blocks, labels, lies = ring_parts()
        backwards = Made(
            ring_source(), dict(list(blocks.items())[::-1]), labels, {"j": "q", "i": "p"}, entries=("e", "d")
        )
        self.assertTrue(backwards == ring_made())

    def test_unequal(self):
        made = ring_made()
        blocks, labels, lies = ring_parts()
        s = ring_source()
        other_source = Source([(name, *s[name]) for name in s.blocks()], ["j", "i"])
        for other in (
            Made(other_source, blocks, labels, lies, entries=("e", "d")),
            Made(s, {**blocks, "a": (blocks["a"][0], ROW)}, labels, lies, entries=("e", "d")),
            Made(s, {**blocks, "c": (("return", "s"),)}, labels, lies, entries=("e", "d")),
            Made(s, blocks, {**labels, "b": (0, 0, 3)}, lies, entries=("e", "d")),
            Made(s, blocks, labels, {"i": "q", "j": "p"}, entries=("e", "d")),
            Made(s, blocks, labels, lies, entries=("e",)),
            Made(s, blocks, labels, lies),
        ):
            self.assertIs(made == other, False)
            self.assertIs(other == made, False)

    def test_unequal_to_other_classes(self):
        for value in (None, True, 1, "a", (), [], {}, LikeAll(), object(), ring_source()):
            self.assertIs(ring_made() == value, False)
            self.assertIs(ring_made() != value, True)

    def test_plain(self):
        s = ring_source()
        made = Made.plain(s)
        self.assertEqual(made.source, s)
        for block in s.blocks():
            self.assertEqual(made.rows(block), s.rows(block))
            self.assertEqual(made.labels(block), tuple(range(len(s.rows(block)) + 1)))
        self.assertEqual([made.returned(block) for block in "abc"], [None, None, "x"])
        self.assertEqual((made.place_of("i"), made.place_of("j"), made.entries), ("i", "j", ()))
        self.assertEqual(made.places(), s.names())

    def test_keeps_nothing_that_was_handed_in(self):
        blocks, labels, lies = ring_parts()
        made = Made(ring_source(), blocks, labels, lies, entries=("e", "d"))
        self.assertEqual((blocks, labels, lies), ring_parts())
        blocks["a"] = ()
        del blocks["b"]
        labels.clear()
        lies["i"] = "z"
        self.assertEqual(made, ring_made())
        self.assertEqual((made.rows("b"), made.place_of("i")), (ring_made().rows("b"), "p"))

    def test_returned_lists_are_new(self):
        made = ring_made()
        for ask in (made.places, made.all_stops, lambda: made.stops("a")):
            first = ask()
            self.assertIsInstance(first, list)
            as_it_was = list(first)
            first.reverse()
            first.append(None)
            self.assertEqual(ask(), as_it_was)
        self.assertEqual(made, ring_made())


class WithTest(Caught, unittest.TestCase):
    def test_with_rows(self):
        made = ring_made()
        other = made.with_rows("b", (ROW,), (2, 3))
        blocks, labels, lies = ring_parts()
        self.assertEqual(other, Made(
            ring_source(), {**blocks, "b": (ROW,)}, {**labels, "b": (2, 3)}, lies, entries=("e", "d")
        ))
        self.assertEqual(made, ring_made())
        other = made.with_rows("c", (ROW, ("return", "s")), (0, 0))
        self.assertEqual((other.rows("c"), other.returned("c"), other.entries), ((ROW,), "s", ("e", "d")))

    def test_errors_of_with_rows(self):
        made = ring_made()
        for rows in ((None,), [], None, (RETURN,), (ROW,) * 17):
            self.check(BadRow, "a", made.with_rows, "a", rows, None)
        self.check(BadRow, "c", made.with_rows, "c", (), (0,))
        for labels in ((1,), [2], (), None, (True,), (2, 2)):
            self.check(BadLabels, "a", made.with_rows, "a", (), labels)
        self.check(UnknownBlock, "d", made.with_rows, "d", None, None)
        self.assertEqual(made, ring_made())

    def test_with_copy(self):
        made = ring_made()
        rows = made.rows("b")
        copy = ("copy", "z", "r")
        for index in range(3):
            other = made.with_copy(("b", index), "r", "z")
            self.assertEqual(other.rows("b"), (*rows[:index], copy, *rows[index:]))
            self.assertEqual(other.places(), [*made.places(), "z"])
            self.assertEqual((other.rows("a"), other.labels("a")), (made.rows("a"), made.labels("a")))
            self.assertEqual((other.source, other.entries), (made.source, made.entries))
        self.assertEqual(made.with_copy(("b", 0), "r", "z").labels("b"), (1, 1, 0, 3))
        self.assertEqual(made.with_copy(("b", 1), "r", "z").labels("b"), (1, 0, 0, 3))
        self.assertEqual(made.with_copy(("b", 2), "r", "z").labels("b"), (1, 0, 3, 3))
        self.assertEqual(made, ring_made())

    def test_with_copy_ahead_of_a_return(self):
        other = doc_made().with_copy(("a", 1), "q", "r")
        self.assertEqual(other.rows("a"), (("set", "p", "f", ("q",)), ("copy", "r", "q")))
        self.assertEqual((other.returned("a"), other.labels("a")), ("p", (0, 2, 2)))

    def test_errors_of_with_copy(self):
        made = doc_made()
        for value in NO_STOPS:
            self.check(BadStop, value, made.with_copy, value, None, None)
        for value in (*ODD_VALUES, "p", "q", "abcdefghi", "Z"):
            self.check(BadShown, value, made.with_copy, ("a", 0), None, value)
        for value in (*ODD_VALUES, "z", "y", ("p",), "x"):
            self.check(BadShown, value, made.with_copy, ("a", 0), value, "z")
        self.assertEqual(made, doc_made())

    def test_with_copy_and_sixteen_rows(self):
        made = doc_made().with_rows("a", (("copy", "q", "p"),) * 15 + (RETURN,), (0,) * 15 + (2,))
        full = made.with_copy(("a", 15), "p", "z")
        self.assertEqual(len(full.rows("a")), 16)
        self.check(BadRow, "a", full.with_copy, ("a", 3), "p", "y")
        self.check(BadShown, "z", full.with_copy, ("a", 3), "p", "z")
        self.check(BadShown, "x", full.with_copy, ("a", 3), "x", "y")


class SourceOfMadeTest(unittest.TestCase):
    def test_source_is_as_it_was(self):
        s = doc_source()
        Made.plain(s).with_copy(("a", 0), "i", "z")
        self.assertEqual(s, doc_source())


if __name__ == "__main__":
    unittest.main()
