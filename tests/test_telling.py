"""What could be told by places, and by operations of them."""

import unittest

from tests.brute import some_made, some_tables
from tests.values import ODD_VALUES, doc_made, ring_made, unreached_made
from valueshown.errors import BadStop, UnknownName
from valueshown.made import Made
from valueshown.players import Walk
from valueshown.sources import Source
from valueshown.tables import Table
from valueshown.telling import can_be_told, gone, is_asked, needless, tellings, told_by
from valueshown.verdicts import verdict
from valueshown.ways import ways_to

A0, A1, B0 = ("a", 0), ("a", 1), ("b", 0)


class TellingsTest(unittest.TestCase):
    def test_example_of_the_document(self):
        made = doc_made()
        self.assertEqual([told_by(made, A1, "y"), told_by(made, A0, "x")], [["p", ("f", "q")], ["p"]])

    def test_tellings(self):
        self.assertEqual(tellings(doc_made()), ["p", "q", ("f", "p"), ("f", "q")])
        places = ["d", "e", "p", "q", "r", "s"]
        self.assertEqual(tellings(made=ring_made()), (
            places + [("f", one, other) for one in places for other in places]
            + [("g", one) for one in places] + [("h",)]
        ))
        self.assertFalse(tellings(doc_made()) is tellings(doc_made()))

    def test_operations_of_different_numbers_of_operands(self):
        source = Source([
            ("a", (("set", "x", "f", ("x", "x")), ("set", "x", "ff", ("x",)), ("copy", "x", "x")), ("go", "a")),
            ("b", (("set", "x", "f", ()),), ("go", "b")),
        ])
        made = Made(source, {"a": (("call", "q", "f", ("p",), ("p",)), ("copy", "p", "q")), "b": ()},
                    {"a": (0, 0, 3), "b": (1,)}, {})
        self.assertEqual(tellings(made), [
            "p", "q", ("f",), ("f", "p"), ("f", "p", "p"), ("f", "p", "q"), ("f", "q"), ("f", "q", "p"), ("f", "q", "q"),
            ("ff", "p"), ("ff", "q"),
        ])

    def test_no_places_and_no_operations(self):
        self.assertEqual(tellings(Made.plain(Source([("a", (), ("go", "a"))]))), [])
        self.assertEqual(tellings(Made.plain(Source([("a", (), ("go", "a"))], ["i"]))), ["i"])
        source = Source([("a", (("set", "x", "h", ()), ("set", "x", "f", ("x",))), ("return", "x"))])
        made = Made(source, {"a": (("return", "p"),)}, {"a": (2,)}, {})
        self.assertEqual(tellings(made), ["p", ("f", "p"), ("h",)])

    def test_ascending_with_the_places_ahead(self):
        for made in some_made(51, 40):
            told = tellings(made)
            places = [entry for entry in told if isinstance(entry, str)]
            self.assertEqual(places, made.places())
            self.assertEqual(told, sorted(set(places)) + sorted(set(told[len(places):])))


class ToldTest(unittest.TestCase):
    def test_asked_stops(self):
        made = unreached_made()
        self.assertEqual([stop for stop in made.all_stops() if is_asked(made, stop)], [A0, ("c", 0)])
        self.assertTrue(is_asked(made=made, stop=A0) is True)
        self.assertTrue(is_asked(made, B0) is False)
        for value in ODD_VALUES + (("a", 1), ("z", 0), ["a", 0], ("a", False)):
            with self.assertRaises(BadStop) as caught:
                is_asked(made, value)
            self.assertTrue(caught.exception.stop is value)

    def test_names_that_nothing_tells(self):
        made = Made(Source([("a", (("copy", "x", "i"),), ("go", "a"))], ["i", "j"]),
                    {"a": (("call", "r", "f", (), ()),)}, {"a": (0, 1)}, {"i": "p", "j": "q"})
        self.assertEqual(told_by(made, A1, "i"), [])
        self.assertTrue(can_be_told(made, A1, "i") is False)
        self.assertEqual(told_by(made, A0, "i"), [])
        one = Made(Source([("a", (("copy", "x", "i"),), ("go", "b")), ("b", (), ("go", "b"))], ["i"]),
                   {"a": (("copy", "r", "p"),), "b": ()}, {"a": (0, 1), "b": (0,)}, {"i": "p"})
        self.assertEqual(told_by(made=one, stop=B0, name="x"), ["p", "r"])
        self.assertTrue(can_be_told(made=one, stop=B0, name="x") is True)

    def test_operations_of_places(self):
        source = Source([("a", (("set", "x", "g", ("i", "j")), ("set", "y", "h", ())), ("return", "x"))], ["i", "j"])
        made = Made(source, {"a": (("copy", "r", "p"), ("return", "p"))}, {"a": (0, 2)}, {"i": "p", "j": "q"})
        self.assertEqual(told_by(made, A1, "x"), [("g", "p", "q"), ("g", "r", "q")])
        self.assertEqual(told_by(made, A1, "y"), [("h",)])
        self.assertEqual(told_by(made, A1, "i"), ["p", "r"])
        self.assertEqual(told_by(made, A0, "x"), ["r"])

    def test_against_walks_and_verdicts(self):
        most = 5
        for made in some_made(52, 50):
            told = tellings(made)
            for stop in made.all_stops():
                if not is_asked(made, stop):
                    continue
                label = made.label(stop)
                walks = [Walk(made, way) for way in ways_to(made.source, stop[0], most)]
                for name in made.source.names():
                    found = told_by(made, stop, name)
                    self.assertTrue(can_be_told(made, stop, name) is (len(found) > 0))
                    self.assertEqual(found, [entry for entry in told if entry in found])
                    for entry in told:
                        on_all = all(walk.shown(stop, entry) == walk.named(label)[name] for walk in walks)
                        self.assertTrue(on_all or entry not in found)
                        if on_all and entry not in found:
                            table = Table(made, [(stop, name, entry)])
                            self.assertNotEqual(verdict(table, stop, name), "true")

    def test_errors(self):
        made = unreached_made()
        for call in (told_by, can_be_told):
            for value in ODD_VALUES + (("a", 1), B0, ("d", 0), ["a", 0]):
                with self.assertRaises(BadStop) as caught:
                    call(made, value, "none")
                self.assertTrue(caught.exception.stop is value)
            for value in ODD_VALUES + ("p", "none"):
                with self.assertRaises(UnknownName) as caught:
                    call(made, A0, value)
                self.assertTrue(caught.exception.name is value)


class GoneTest(unittest.TestCase):
    def test_gone(self):
        table = Table(doc_made(), [(A1, "x", "p"), (A0, "y", "q")])
        self.assertEqual(gone(table=table), [(A0, "i"), (A0, "x"), (A1, "i"), (A1, "y")])
        self.assertEqual(needless(table=table), [
            (A0, "i", "q"), (A0, "x", "p"), (A1, "i", "q"), (A1, "y", "p"),
        ])

    def test_at_asked_stops_alone(self):
        table = Table(unreached_made(), [(B0, "x", "p"), (A0, "i", "p"), (A0, "x", "p")])
        self.assertEqual(gone(table), [(A0, "y"), (("c", 0), "i"), (("c", 0), "x"), (("c", 0), "y")])
        self.assertEqual(needless(table), [
            (A0, "y", "q"), (("c", 0), "i", "p"), (("c", 0), "x", "p"), (("c", 0), "y", "q"),
        ])

    def test_full_and_empty_tables(self):
        made = doc_made()
        full = Table(made, [(stop, name, "p") for stop in made.all_stops() for name in made.source.names()])
        self.assertEqual((gone(full), needless(full)), ([], []))
        empty = Table(made)
        self.assertEqual(gone(empty), [(stop, name) for stop in (A0, A1) for name in "ixy"])

    def test_what_cannot_be_told_is_not_needless(self):
        made = Made(Source([("a", (), ("go", "a"))], ["i", "j"]), {"a": (("call", "p", "f", (), ()),)},
                    {"a": (0, 0)}, {"i": "p", "j": "q"})
        table = Table(made)
        self.assertEqual(len(gone(table)), 4)
        self.assertEqual(needless(table), [])

    def test_against_told_by(self):
        for table in some_tables(53, 50):
            made = table.made
            self.assertEqual(gone(table), [
                (stop, name) for stop in made.all_stops() if is_asked(made, stop)
                for name in made.source.names() if table.entry(stop, name) is None
            ])
            self.assertEqual(needless(table), [
                (stop, name, told_by(made, stop, name)[0]) for stop, name in gone(table)
                if can_be_told(made, stop, name)
            ])

    def test_lists_are_new(self):
        table = Table(doc_made())
        for call in (gone, needless):
            call(table).clear()
            self.assertTrue(len(call(table)) > 0)
        told_by(doc_made(), A1, "y").clear()
        self.assertEqual(told_by(doc_made(), A1, "y"), ["p", ("f", "q")])


if __name__ == "__main__":
    unittest.main()
