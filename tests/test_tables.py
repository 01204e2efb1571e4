"""Tables: what is shown for names at stops."""

import unittest

from tests.values import ODD_VALUES, LikeAll, doc_made, doc_source, ring_made, ring_parts, ring_source
from valueshown.errors import BadShown, BadStop, UnknownName
from valueshown.made import Made
from valueshown.sources import Source
from valueshown.tables import Table

A0, A1, A2, B0, C0 = ("a", 0), ("a", 1), ("a", 2), ("b", 0), ("c", 0)


def ring_rows():
    return [
        (C0, "x", "r"),
        (A1, "y", ("g", "r")),
        (A1, "i", "p"),
        (A0, "x", ("h",)),
        (("b", 2), "x", ("f", "p", "q")),
        (("b", 2), "i", "d"),
    ]


def in_order():
    rows = ring_rows()
    return [rows[3], rows[2], rows[1], rows[5], rows[4], rows[0]]


class TableTest(unittest.TestCase):
    def test_example_of_the_document(self):
        table = Table(doc_made(), [(A1, "x", "p")])
        self.assertEqual([table(A1), table.entry(A0, "x"), len(table)], ["x=p", None, 1])

    def test_an_empty_table(self):
        made = doc_made()
        for table in (Table(made), Table(made, []), Table(made, ()), Table(made=made, rows=[])):
            self.assertTrue(table.made is made)
            self.assertEqual((table.rows(), len(table), list(table)), ([], 0, []))
            self.assertEqual((table[A0], table(A0), table.entry(A0, "x")), ({}, "", None))
        nothing = Made(Source([("a", (), ("go", "a"))]), {"a": ()}, {"a": (0,)}, {})
        self.assertEqual(Table(nothing)[A0], {})

    def test_rows_are_by_stops_and_names(self):
        table = Table(ring_made(), ring_rows())
        self.assertEqual(table.rows(), in_order())
        self.assertEqual(list(table), in_order())
        self.assertEqual([row for row in table], in_order())
        self.assertEqual(len(table), 6)
        self.assertEqual(Table(ring_made(), tuple(ring_rows())), table)

    def test_what_is_shown_at_a_stop(self):
        table = Table(ring_made(), ring_rows())
        self.assertEqual(table[A1], {"i": "p", "y": ("g", "r")})
        self.assertEqual(list(table[A1]), ["i", "y"])
        self.assertEqual(table[("b", 2)], {"i": "d", "x": ("f", "p", "q")})
        self.assertEqual(table[A2], {})
        self.assertEqual(table.entry(A1, "y"), ("g", "r"))
        self.assertEqual(table.entry(A1, "x"), None)
        self.assertEqual(table.entry(stop=C0, name="x"), "r")

    def test_texts(self):
        table = Table(ring_made(), ring_rows())
        self.assertEqual(table(A1), "i=p, y=g(r)")
        self.assertEqual(table(A0), "x=h()")
        self.assertEqual(table(stop=("b", 2)), "i=d, x=f(p,q)")
        self.assertEqual(table(A2), "")

    def test_bad_stops(self):
        table = Table(ring_made(), ring_rows())
        bad = ODD_VALUES + (("a", 3), ("a", True), ("a", -1), ("d", 0), ["a", 0], ("a", 0, 0), (LikeAll(), 0))
        for value in bad:
            calls = (
                lambda: table[value],
                lambda: table(value),
                lambda: table.entry(value, "x"),
                lambda: table.entry(value, None),
                lambda: table.without(value, "none"),
                lambda: table.with_entry(value, "none", "none"),
                lambda: Table(ring_made(), [(value, "none", "none")]),
            )
            for call in calls:
                with self.assertRaises(BadStop) as caught:
                    call()
                self.assertTrue(caught.exception.stop is value)

    def test_bad_names(self):
        table = Table(ring_made(), ring_rows())
        for value in ODD_VALUES + ("p", "none"):
            calls = (
                lambda: table.entry(A0, value),
                lambda: table.without(A0, value),
                lambda: table.with_entry(A0, value, None),
                lambda: Table(ring_made(), [(A0, value, None)]),
            )
            for call in calls:
                with self.assertRaises(UnknownName) as caught:
                    call()
                self.assertTrue(caught.exception.name is value)

    def test_bad_entries(self):
        table = Table(ring_made(), ring_rows())
        # A tuple with a name alone is an operation without places.
        bad = tuple(value for value in ODD_VALUES if not isinstance(value, tuple) or value != ("a",)) + (
            "x", "none", ("g", "x"), ("g", "p", "q", "r"), ["g", "p"], ("G", "p"), ("g", ("p",)), ("g", LikeAll()),
        )
        for value in bad:
            with self.assertRaises(BadShown) as caught:
                Table(ring_made(), [(A0, "x", value)])
            self.assertTrue(caught.exception.what is value)
            with self.assertRaises(BadShown) as caught:
                table.with_entry(A0, "x", value)
            self.assertTrue(caught.exception.what is value)

    def test_bad_rows(self):
        for value in ODD_VALUES + ((), (A0, "x"), (A0, "x", "p", "q"), [A0, "x", "p"], "abc"):
            with self.assertRaises(BadShown) as caught:
                Table(ring_made(), [value])
            self.assertTrue(caught.exception.what is value)
        again = (A0, "x", "q")
        with self.assertRaises(BadShown) as caught:
            Table(ring_made(), [(A0, "x", "p"), (A1, "x", "p"), again])
        self.assertTrue(caught.exception.what is again)

    def test_rows_are_checked_one_by_one(self):
        with self.assertRaises(UnknownName):
            Table(ring_made(), [(A0, "none", "p"), (None, "x", "p")])
        with self.assertRaises(BadStop):
            Table(ring_made(), [(None, "x", "p"), 5])
        with self.assertRaises(BadShown) as caught:
            Table(ring_made(), [(A0, "x", "none"), (A0, "none", "p")])
        self.assertEqual(caught.exception.what, "none")
        with self.assertRaises(BadShown) as caught:
            Table(ring_made(), [(A0, "x", "p"), (A0, "x", "none")])
        self.assertEqual(caught.exception.what, "none")
        with self.assertRaises(BadShown) as caught:
            Table(ring_made(), [(A0, "x", "p"), (A0, "x", "p"), (A0, "none", "p")])
        self.assertEqual(caught.exception.what, (A0, "x", "p"))

    def test_or(self):
        one = Table(ring_made(), [(A0, "x", "p"), (A1, "y", "q")])
        other = Table(ring_made(), [(A0, "x", "q"), (A0, "i", "r"), (C0, "y", "s")])
        self.assertEqual((one | other).rows(), [(A0, "i", "r"), (A0, "x", "p"), (A1, "y", "q"), (C0, "y", "s")])
        self.assertEqual((other | one).rows(), [(A0, "i", "r"), (A0, "x", "q"), (A1, "y", "q"), (C0, "y", "s")])
        self.assertEqual((one | Table(ring_made())), one)
        self.assertEqual((Table(ring_made()) | one), one)
        self.assertEqual((len(one), len(other)), (2, 3))

    def test_less(self):
        one = Table(ring_made(), [(A0, "x", "p")])
        other = Table(ring_made(), [(A0, "x", "q"), (A0, "i", "r")])
        empty = Table(ring_made())
        pairs = [(one, other), (empty, one), (empty, empty), (one, one)]
        for left, right in pairs:
            self.assertTrue((left <= right) is True)
        for left, right in ((other, one), (one, empty), (one, Table(ring_made(), [(A1, "x", "p")]))):
            self.assertTrue((left <= right) is False)
        self.assertTrue(other >= one)

    def test_made_codes_that_differ(self):
        blocks, labels, lies = ring_parts()
        unlike = Made(ring_source(), blocks, labels, lies, entries=("e",))
        one = Table(ring_made())
        for other in ODD_VALUES + (Table(unlike), Table(doc_made()), ring_made()):
            with self.assertRaises(BadShown) as caught:
                one | other
            self.assertTrue(caught.exception.what is other)
            with self.assertRaises(BadShown) as caught:
                one <= other
            self.assertTrue(caught.exception.what is other)

    def test_without(self):
        table = Table(ring_made(), ring_rows())
        less = table.without(A1, "i")
        self.assertEqual(less.rows(), [row for row in in_order() if row[:2] != (A1, "i")])
        self.assertEqual(table.without(stop=A1, name="x"), table)
        self.assertEqual(len(table), 6)
        self.assertEqual(type(less), Table)

    def test_with_entry(self):
        table = Table(ring_made(), ring_rows())
        self.assertEqual(table.with_entry(A1, "i", ("h",))[A1], {"i": ("h",), "y": ("g", "r")})
        more = table.with_entry(stop=A2, name="i", entry="q")
        self.assertEqual(more[A2], {"i": "q"})
        self.assertEqual((len(more), len(table), table[A2]), (7, 6, {}))
        self.assertEqual(more.without(A2, "i"), table)

    def test_equal(self):
        table = Table(ring_made(), ring_rows())
        self.assertEqual(table, Table(ring_made(), ring_rows()[::-1]))
        self.assertNotEqual(table, Table(ring_made(), ring_rows()[1:]))
        self.assertNotEqual(table, Table(ring_made(), ring_rows()[1:] + [(C0, "x", "q")]))
        blocks, labels, lies = ring_parts()
        unlike = Made(ring_source(), blocks, labels, lies, entries=("e",))
        self.assertNotEqual(Table(unlike), Table(ring_made()))
        for other in (None, 1, [], in_order(), ring_made()):
            self.assertFalse(table == other)

    def test_nothing_is_kept_or_shared(self):
        rows = ring_rows()
        table = Table(ring_made(), rows)
        self.assertEqual(rows, ring_rows())
        rows.clear()
        table.rows().clear()
        table[A1].clear()
        self.assertEqual(table.rows(), in_order())
        self.assertEqual(table[A1], {"i": "p", "y": ("g", "r")})
        self.assertFalse(table.rows() is table.rows())

    def test_a_failing_call_changes_nothing(self):
        table = Table(ring_made(), ring_rows())
        for call in (
            lambda: table.with_entry(A0, "x", "none"), lambda: table.without(A0, "none"), lambda: table | None,
        ):
            with self.assertRaises((BadShown, UnknownName)):
                call()
        self.assertEqual(table.rows(), in_order())

    def test_names_of_inputs_that_no_row_has(self):
        made = Made.plain(Source([("a", (), ("go", "a"))], ["i"]))
        self.assertEqual(Table(made, [(A0, "i", "i")])(A0), "i=i")
        self.assertEqual(doc_source().names(), ["i", "x", "y"])


if __name__ == "__main__":
    unittest.main()
