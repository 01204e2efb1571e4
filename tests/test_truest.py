"""Most truthful tables, and tables that are repaired."""

import random
import unittest

from tests.brute import (
    entry_renamed, few_rounds, random_made, random_table, renamed, some_made, some_tables, told_on_all, walks_to,
    words_of,
)
from tests.test_standing import lattice, turning
from tests.values import doc_made, ring_made, unreached_made
from valueshown.errors import TooMany
from valueshown.made import Made
from valueshown.sources import Source
from valueshown.tables import Table
from valueshown.telling import can_be_told, gone, is_asked, needless, tellings, told_by
from valueshown.truest import is_most_truthful, lies, most_truthful, repaired
from valueshown.verdicts import all_words, is_truthful, verdict

A0, A1, B0, C0 = ("a", 0), ("a", 1), ("b", 0), ("c", 0)
MOST = 5


class MostTruthfulTest(unittest.TestCase):
    def test_example_of_the_document(self):
        self.assertEqual(most_truthful(doc_made()).rows()[:4], [
            (A0, "i", "q"), (A0, "x", "p"), (A0, "y", "p"), (A1, "i", "q"),
        ])
        self.assertEqual(most_truthful(made=doc_made()).rows()[4:], [(A1, "x", "p"), (A1, "y", "p")])

    def test_the_made_code_is_that_of_the_table(self):
        made = doc_made()
        self.assertTrue(most_truthful(made).made is made)
        self.assertEqual(type(most_truthful(made)), Table)

    def test_at_asked_stops_alone(self):
        table = most_truthful(unreached_made())
        self.assertEqual({stop for stop, _, _ in table}, {A0, C0})
        self.assertEqual(table[A0], {"i": "p", "x": "p", "y": "q"})

    def test_nothing_to_tell(self):
        self.assertEqual(len(most_truthful(Made.plain(Source([("a", (), ("go", "a"))])))), 0)
        made = Made(Source([("a", (), ("go", "a"))], ["i"]), {"a": (("call", "p", "f", (), ()),)}, {"a": (0, 0)},
                    {"i": "q"})
        self.assertEqual(most_truthful(made).rows(), [])

    def test_plain_made_codes_tell_all(self):
        for made in some_made(60, 20):
            plain = Made.plain(made.source)
            table = most_truthful(plain)
            self.assertEqual(gone(table), [])
            for stop, name, entry in table:
                self.assertTrue(entry <= name)

    def test_operations(self):
        source = Source([("a", (("set", "x", "g", ("i", "j")), ("set", "y", "h", ())), ("return", "x"))], ["i", "j"])
        made = Made(source, {"a": (("copy", "r", "p"), ("return", "p"))}, {"a": (0, 2)}, {"i": "p", "j": "q"})
        self.assertEqual(most_truthful(made)[A1], {"i": "p", "j": "q", "x": ("g", "p", "q"), "y": ("h",)})

    def test_against_a_plain_search(self):
        for made in few_rounds(some_made(61, 60), MOST):
            table = most_truthful(made)
            self.assertTrue(is_truthful(table))
            for stop in made.all_stops():
                walks = walks_to(made, stop[0], MOST)
                for name in made.source.names():
                    told = told_on_all(made, stop, name, walks) if is_asked(made, stop) else []
                    self.assertEqual(table.entry(stop, name), told[0] if told else None)

    def test_it_shows_what_any_truthful_table_shows(self):
        rng = random.Random(62)
        for table in some_tables(62, 40):
            most = most_truthful(table.made)
            rows = [row for row in table if is_asked(table.made, row[0]) and verdict(table, *row[:2]) == "true"]
            self.assertTrue(Table(table.made, rows) <= most)
            self.assertEqual(needless(most), [])
            told = tellings(table.made)
            for stop, name in gone(most):
                if told:
                    self.assertNotEqual(verdict(most.with_entry(stop, name, rng.choice(told)), stop, name), "true")

    def test_other_words(self):
        rng = random.Random(63)
        for made in some_made(63, 25):
            words = words_of(made)
            new = ["w" + letter for letter in "abcdefghijklmnopqrstuvwxyz"[:len(words)]]
            rng.shuffle(new)
            change = dict(zip(words, new))
            other = renamed(made, change)
            told = {(change[stop[0]], stop[1], change[name]) for stop, name, _ in most_truthful(made)}
            self.assertEqual({(*stop, name) for stop, name, _ in most_truthful(other)}, told)
            for stop in made.all_stops():
                for name in made.source.names():
                    if is_asked(made, stop):
                        there = told_by(other, (change[stop[0]], stop[1]), change[name])
                        here = [entry_renamed(entry, change) for entry in told_by(made, stop, name)]
                        self.assertEqual(sorted(map(str, there)), sorted(map(str, here)))

    def test_long_rings(self):
        made = turning(14)
        table = most_truthful(made)
        self.assertEqual(len(table), 0)
        source = Source([
            ("a", (("set", "x", "h", ()),), ("go", "b")), ("b", (), ("either", "b", "c")), ("c", (), ("return", "x")),
        ])
        words = [f"p{letter}" for letter in "abcdefghijklmn"]
        codes = {
            "a": tuple(("set", word, "h", ()) for word in words),
            "b": tuple(("copy", one, other) for one, other in zip(words, words[1:])),
            "c": (("return", words[0]),),
        }
        made = Made(source, codes, {"a": (0,) * 14 + (1,), "b": (0,) * 14, "c": (0,)}, {})
        self.assertEqual(most_truthful(made).entry(C0, "x"), "pa")
        # Each time around, one place more is nothing, at last the first one.
        wrong = made.with_rows("a", codes["a"][:-1], (0,) * 13 + (1,))
        self.assertEqual(told_by(wrong, C0, "x"), [("h",)])

    def test_too_many_nodes(self):
        for call in (most_truthful, lambda made: lies(Table(made)), lambda made: repaired(Table(made)),
                     lambda made: is_most_truthful(Table(made))):
            with self.assertRaises(TooMany) as caught:
                call(lattice(16))
            self.assertEqual(caught.exception.limit, 20000)


class TablesTest(unittest.TestCase):
    def test_some(self):
        table = Table(doc_made(), [(A1, "x", "q"), (A1, "y", ("f", "q")), (A0, "i", "p")])
        self.assertEqual(lies(table=table), [(A0, "i", "p"), (A1, "x", "q")])
        self.assertTrue(is_most_truthful(table=table) is False)
        fixed = repaired(table=table)
        self.assertEqual(fixed.rows(), [
            (A0, "i", "q"), (A0, "x", "p"), (A0, "y", "p"), (A1, "i", "q"), (A1, "x", "p"), (A1, "y", ("f", "q")),
        ])
        self.assertTrue(is_most_truthful(fixed) is True)
        self.assertTrue(is_most_truthful(most_truthful(doc_made())) is True)
        self.assertEqual(len(table), 3)

    def test_entries_where_no_way_leads(self):
        made = unreached_made()
        table = Table(made, [(B0, "x", "p"), (("d", 0), "y", "p"), (A0, "x", "q")])
        self.assertEqual(lies(table), [(A0, "x", "q")])
        self.assertEqual(repaired(table), most_truthful(made))
        more = most_truthful(made).with_entry(B0, "x", "p")
        self.assertTrue(is_most_truthful(more))
        self.assertFalse(is_most_truthful(more.with_entry(A0, "x", "q")))
        self.assertEqual(repaired(more), most_truthful(made))

    def test_an_empty_table(self):
        self.assertEqual(lies(Table(ring_made())), [])
        self.assertEqual(repaired(Table(ring_made())), most_truthful(ring_made()))
        empty = Made(Source([("a", (), ("go", "a"))], ["i"]), {"a": (("call", "p", "f", (), ()),)}, {"a": (0, 0)},
                     {"i": "q"})
        self.assertTrue(is_most_truthful(Table(empty)))
        self.assertFalse(is_most_truthful(Table(doc_made())))

    def test_entries_that_are_no_tellings(self):
        # No row gives two operands to h: what it shows is nobody's.
        table = Table(doc_made(), [(A1, "x", ("h", "p", "q")), (A1, "y", ("f", "p", "p"))])
        self.assertEqual(lies(table), table.rows())

    def test_one_entry_less_or_another_one(self):
        for made in some_made(64, 20):
            most = most_truthful(made)
            self.assertTrue(is_most_truthful(most))
            for stop, name, entry in most:
                self.assertFalse(is_most_truthful(most.without(stop, name)))
                for other in tellings(made):
                    told = other in told_by(made, stop, name)
                    self.assertEqual(is_most_truthful(most.with_entry(stop, name, other)), told)
                break

    def test_against_words(self):
        for table in some_tables(65, 50):
            words = {(stop, name): word for stop, name, word in all_words(table)}
            wrong = [
                row for row in table
                if is_asked(table.made, row[0]) and words[row[:2]] != "true"
            ]
            self.assertEqual(lies(table), wrong)
            fixed = repaired(table)
            most = most_truthful(table.made)
            for stop in table.made.all_stops():
                for name in table.made.source.names():
                    own = table.entry(stop, name)
                    if not is_asked(table.made, stop):
                        self.assertEqual(fixed.entry(stop, name), None)
                    elif own is not None and words[(stop, name)] == "true":
                        self.assertEqual(fixed.entry(stop, name), own)
                    else:
                        self.assertEqual(fixed.entry(stop, name), most.entry(stop, name))
            self.assertTrue(is_most_truthful(fixed))
            shows_all = all(
                name in table[stop] or not can_be_told(table.made, stop, name)
                for stop in table.made.all_stops() if is_asked(table.made, stop)
                for name in table.made.source.names()
            )
            self.assertTrue(is_most_truthful(table) is (shows_all and not wrong))

    def test_nothing_is_changed_or_shared(self):
        rng = random.Random(66)
        made = random_made(rng)
        table = random_table(rng, made)
        rows = table.rows()
        lies(table).clear()
        repaired(table).rows().clear()
        is_most_truthful(table)
        self.assertEqual((table.rows(), lies(table)), (rows, lies(table)))
        self.assertFalse(lies(table) is lies(table))


if __name__ == "__main__":
    unittest.main()
