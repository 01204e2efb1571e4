"""Verdicts: whether what a table shows is the source's."""

import unittest

from tests.brute import some_made, some_tables
from tests.values import ODD_VALUES, doc_made, ring_made, unreached_made
from valueshown.errors import BadStop, BadWay, UnknownName
from valueshown.made import Made
from valueshown.players import Walk
from valueshown.sources import Source
from valueshown.standing import Standing, unlike_way
from valueshown.tables import Table
from valueshown.verdicts import (
    all_words, is_truthful, kind_on, kinds_up_to, least_way, mark_of, verdict, wrong_return,
)
from valueshown.ways import ways_to

A0, A1, A2, A3 = ("a", 0), ("a", 1), ("a", 2), ("a", 3)
MOST = 6


def doc_table():
    return Table(doc_made(), [(A1, "x", "p"), (A1, "y", "q")])


def kinds_made():
    """A ring in which what is shown has been, will be, or is never a name's value."""
    source = Source([
        ("a", (("copy", "x", "i"), ("copy", "x", "j"), ("set", "x", "f", ("x",))), ("either", "a", "b")),
        ("b", (), ("return", "x")),
    ], ["i", "j"])
    blocks = {"a": (("copy", "r", "q"), ("set", "s", "f", ("q",)), ("copy", "r", "p")), "b": (("return", "s"),)}
    return Made(source, blocks, {"a": (0, 1, 2, 3), "b": (0,)}, {"i": "p", "j": "q"})


def kind_by_terms(table, stop, name, way):
    walk = Walk(table.made, way)
    label = table.made.label(stop)
    shown = walk.shown(stop, table.entry(stop, name))
    if shown == walk.named(label)[name]:
        return "true"
    if shown in walk.history(name, label):
        return "elder"
    return "ahead" if shown in walk.coming(name, label) else "false"


class ExampleTest(unittest.TestCase):
    def test_examples_of_the_document(self):
        table = doc_table()
        self.assertEqual(
            [verdict(table, A1, "x"), verdict(table, A1, "y"), verdict(table, A0, "y")], ["true", "untrue", "gone"],
        )
        self.assertEqual([least_way(table, A1, "y"), kind_on(table, A1, "y", ["a"])], [["a"], "false"])

    def test_mark_of(self):
        self.assertEqual(mark_of("p"), ("place", "p"))
        self.assertEqual(mark_of(("f",)), ("op", "f", ()))
        self.assertEqual(mark_of(("f", "p")), ("op", "f", (("place", "p"),)))
        self.assertEqual(mark_of(entry=("f", "p", "q")), ("op", "f", (("place", "p"), ("place", "q"))))

    def test_by_the_names_of_the_interface(self):
        table = doc_table()
        self.assertEqual(verdict(table=table, stop=A1, name="x"), "true")
        self.assertEqual(least_way(table=table, stop=A1, name="x"), None)
        self.assertEqual(kind_on(table=table, stop=A1, name="x", way=("a",)), "true")
        self.assertEqual(kinds_up_to(table=table, stop=A1, name="x", most=8), ["true"])
        self.assertEqual(all_words(table=table), [(A1, "x", "true"), (A1, "y", "untrue")])
        self.assertTrue(is_truthful(table=table) is False)
        self.assertEqual(wrong_return(made=doc_made()), None)


class WordTest(unittest.TestCase):
    def test_true_late_and_untrue(self):
        made = kinds_made()
        table = Table(made, [
            (A0, "i", "p"), (A0, "x", "q"), (A1, "x", "p"), (A2, "x", "p"), (A3, "x", "q"), (A3, "j", "s"),
        ])
        self.assertEqual(all_words(table), [
            (A0, "i", "true"), (A0, "x", "untrue"), (A1, "x", "true"), (A2, "x", "late"),
            (A3, "j", "untrue"), (A3, "x", "late"),
        ])
        for stop, name, word in all_words(table):
            self.assertEqual(verdict(table, stop, name), word)
        self.assertFalse(is_truthful(table))
        self.assertEqual(verdict(table, A1, "j"), "gone")

    def test_what_is_gone_has_no_way(self):
        for made in (doc_made(), kinds_made(), unreached_made()):
            for stop in made.all_stops():
                self.assertEqual(verdict(Table(made), stop, "x"), "gone")
                self.assertEqual(least_way(Table(made), stop, "x"), None)
                self.assertEqual(kinds_up_to(Table(made), stop, "x", 8), [])

    def test_what_is_true_and_late_at_once_is_true(self):
        made = Made.plain(Source([("a", (("copy", "x", "i"), ("copy", "x", "x")), ("return", "x"))], ["i"]))
        table = Table(made, [(A2, "x", "i"), (A0, "x", "x"), (A1, "x", "i")])
        self.assertEqual([word for _, _, word in all_words(table)], ["true", "true", "true"])
        self.assertTrue(is_truthful(table) is True)

    def test_empty_tables(self):
        table = Table(doc_made())
        self.assertEqual(all_words(table), [])
        self.assertTrue(is_truthful(table) is True)
        self.assertEqual(verdict(table, A0, "x"), "gone")
        self.assertFalse(all_words(table) is all_words(table))

    def test_where_no_way_leads_all_is_true(self):
        table = Table(unreached_made(), [(("b", 0), "y", ("k", "p")), (("d", 0), "i", "q")])
        self.assertEqual([word for _, _, word in all_words(table)], ["true", "true"])
        self.assertTrue(is_truthful(table))
        self.assertEqual(least_way(table, ("b", 0), "y"), None)
        self.assertEqual(kinds_up_to(table, ("b", 0), "y", 8), [])
        self.assertEqual(verdict(table, ("b", 0), "x"), "gone")

    def test_against_walks(self):
        words = []
        for table in some_tables(31, 60):
            made = table.made
            told = all_words(table)
            self.assertEqual([row[:2] for row in table.rows()], [row[:2] for row in told])
            self.assertEqual(is_truthful(table), all(word == "true" for _, _, word in told))
            for stop, name, word in told:
                if stop[0] not in made.source.reached():
                    self.assertEqual(word, "true")
                    continue
                words.append(word)
                label = made.label(stop)
                walks = [Walk(made, way) for way in ways_to(made.source, stop[0], MOST)]
                shown = [walk.shown(stop, table.entry(stop, name)) for walk in walks]
                unlike = [walk.way for walk, term in zip(walks, shown) if term != walk.named(label)[name]]
                late = all(term == walk.late(label)[name] for walk, term in zip(walks, shown))
                way = least_way(table, stop, name)
                if word == "true":
                    self.assertEqual((unlike, way), ([], None))
                    continue
                self.assertTrue(late or word == "untrue")
                self.assertNotEqual(kind_on(table, stop, name, way), "true")
                if unlike:
                    self.assertEqual(len(way), len(unlike[0]))
                else:
                    self.assertTrue(len(way) > MOST)
                if word == "untrue" and late:
                    mark = mark_of(table.entry(stop, name))
                    self.assertTrue(len(unlike_way(Standing(made), stop, mark, ("late", name))) > MOST)
        for word in ("true", "late", "untrue"):
            self.assertTrue(words.count(word) > 3, word)

    def test_bad_stops_and_names(self):
        table = doc_table()
        for value in ODD_VALUES + (("a", 2), ("b", 0), ("a", True), ["a", 0]):
            for call in (verdict, least_way, lambda *args: kinds_up_to(*args, 8)):
                with self.assertRaises(BadStop) as caught:
                    call(table, value, "none")
                self.assertTrue(caught.exception.stop is value)
        for value in ODD_VALUES + ("p", "none"):
            for call in (verdict, least_way, lambda *args: kinds_up_to(*args, 8)):
                with self.assertRaises(UnknownName) as caught:
                    call(table, A0, value)
                self.assertTrue(caught.exception.name is value)


class KindTest(unittest.TestCase):
    def table(self):
        return Table(kinds_made(), [
            (A0, "x", "p"), (A1, "x", "q"), (A2, "x", "p"), (A3, "x", "s"), (A2, "i", "q"), (A0, "j", "s"),
        ])

    def test_kinds(self):
        table = self.table()
        self.assertEqual(kind_on(table, A0, "x", ["a"]), "ahead")
        self.assertEqual(kind_on(table, A0, "x", ["a", "a"]), "elder")
        self.assertEqual(kind_on(table, A1, "x", ["a"]), "ahead")
        self.assertEqual(kind_on(table, A1, "x", ["a", "a"]), "elder")
        self.assertEqual(kind_on(table, A2, "x", ["a"]), "elder")
        self.assertEqual(kind_on(table, A3, "x", ["a"]), "true")
        self.assertEqual(kind_on(table, A2, "i", ["a"]), "false")
        self.assertEqual(kind_on(table, A3, "i", ["a"]), "gone")

    def test_nothing_is_elder_than_the_first_row(self):
        made = Made(Source([("a", (("copy", "x", "i"),), ("return", "x"))], ["i"]),
                    {"a": (("copy", "r", "s"), ("return", "r"))}, {"a": (0, 1)}, {"i": "p"})
        table = Table(made, [(A0, "x", "r"), (A1, "x", "r"), (A1, "i", "r"), (A0, "i", "p")])
        self.assertEqual([kind_on(table, stop, name, ["a"]) for stop, name, _ in table], [
            "true", "true", "false", "elder",
        ])

    def test_kinds_up_to(self):
        table = self.table()
        self.assertEqual(kinds_up_to(table, A0, "x", 1), ["ahead"])
        self.assertEqual(kinds_up_to(table, A0, "x", 2), ["elder", "ahead"])
        self.assertEqual(kinds_up_to(table, A0, "x", 8), ["elder", "ahead"])
        self.assertEqual(kinds_up_to(table, A3, "x", 8), ["true"])
        self.assertEqual(kinds_up_to(table, A3, "i", 8), [])
        self.assertEqual(kinds_up_to(table, A0, "j", 3), ["false"])

    def test_against_terms(self):
        found = {}
        for table in some_tables(32, 60):
            for stop, name, _ in table:
                ways = ways_to(table.made.source, stop[0], 5)
                kinds = [kind_by_terms(table, stop, name, way) for way in ways]
                self.assertEqual([kind_on(table, stop, name, way) for way in ways], kinds)
                told = kinds_up_to(table, stop, name, 5)
                self.assertEqual(told, [kind for kind in ("true", "elder", "ahead", "false") if kind in kinds])
                for kind in kinds:
                    found[kind] = found.get(kind, 0) + 1
        self.assertTrue(min(found.values()) > 5 and len(found) == 4, found)

    def test_long_ways_whose_terms_share_much(self):
        source = Source([("a", (("set", "x", "g", ("x", "x")),), ("either", "a", "b")), ("b", (), ("return", "x"))], ["i"])
        made = Made(source, {
            "a": (("set", "p", "g", ("p", "p")), ("set", "q", "g", ("q", "q"))), "b": (("return", "p"),),
        }, {"a": (0, 0, 1), "b": (0,)}, {"i": "i"}, entries=("q",))
        table = Table(made, [(("b", 0), "x", "p"), (("b", 0), "i", "q"), (A0, "x", ("g", "q", "p"))])
        way = ["a"] * 3000 + ["b"]
        self.assertEqual(kind_on(table, ("b", 0), "x", way), "true")
        self.assertEqual(kind_on(table, ("b", 0), "i", way), "false")
        self.assertEqual(kind_on(table, A0, "x", way[:-1]), "false")

    def test_errors_in_their_order(self):
        table = self.table()
        for value in ODD_VALUES + (["a", "c"], ["b"], "a"):
            if not isinstance(value, (list, tuple)) or list(value) != ["a"]:
                with self.assertRaises(BadWay):
                    kind_on(table, None, None, value)
        with self.assertRaises(BadWay) as caught:
            kind_on(table, None, None, ["a", "c"])
        self.assertEqual(caught.exception.index, 1)
        for value in ODD_VALUES + (("b", 0), ("a", 4), ("a", True), ["a", 0]):
            with self.assertRaises(BadStop) as caught:
                kind_on(table, value, None, ["a"])
            self.assertTrue(caught.exception.stop is value)
        with self.assertRaises(BadStop):
            kind_on(table, A0, "x", ["a", "b"])
        for value in ODD_VALUES + ("p",):
            with self.assertRaises(UnknownName) as caught:
                kind_on(table, A0, value, ["a"])
            self.assertTrue(caught.exception.name is value)

    def test_arguments_stay(self):
        table, way = self.table(), ["a", "a"]
        rows = table.rows()
        kind_on(table, A0, "x", way)
        all_words(table)
        self.assertEqual((table.rows(), way), (rows, ["a", "a"]))


def made_returning(place):
    """A made code whose one return that is reached is of this place."""
    made = unreached_made()
    return made.with_rows("c", (("return", place),), (0,))


class ReturnTest(unittest.TestCase):
    def test_some_returns(self):
        self.assertEqual(wrong_return(doc_made()), None)
        self.assertEqual(wrong_return(kinds_made()), None)
        self.assertEqual(wrong_return(made_returning("q")), ["a", "c"])
        plain = Made.plain(Source([("a", (), ("go", "a"))]))
        self.assertEqual(wrong_return(plain), None)

    def test_returns_of_blocks_to_which_no_way_leads_count_not(self):
        self.assertEqual(unreached_made().source.reached(), ["a", "c"])
        self.assertEqual(wrong_return(unreached_made()), None)

    def test_a_shortest_way_of_all_returns(self):
        source = Source([
            ("a", (("copy", "x", "i"),), ("either", "b", "c")), ("b", (("set", "x", "f", ()),), ("either", "c", "d")),
            ("c", (), ("return", "x")), ("d", (), ("return", "x")),
        ], ["i"])
        labels = {"a": (1,), "b": (1,), "c": (0,), "d": (0,)}
        made = Made(source, {"a": (), "b": (), "c": (("return", "p"),), "d": (("return", "p"),)}, labels, {"i": "p"})
        self.assertIn(wrong_return(made), (["a", "b", "c"], ["a", "b", "d"]))
        made = Made(source, {"a": (), "b": (), "c": (("return", "q"),), "d": (("return", "p"),)}, labels, {"i": "p"})
        self.assertEqual(wrong_return(made), ["a", "c"])

    def test_the_shortest_way_need_not_be_that_of_the_first_return(self):
        source = Source([
            ("a", (), ("either", "b", "e")), ("b", (), ("either", "c", "d")), ("c", (), ("return", "i")),
            ("d", (), ("return", "i")), ("e", (), ("return", "i")),
        ], ["i"])
        blocks = {"a": (), "b": (), "c": (("return", "q"),), "d": (("return", "p"),), "e": (("return", "q"),)}
        made = Made(source, blocks, {block: (0,) for block in blocks}, {"i": "p"})
        self.assertEqual(wrong_return(made), ["a", "e"])

    def test_against_walks(self):
        found = {None: 0}
        for made in some_made(33, 150):
            way = wrong_return(made)
            unlike = []
            for block in made.source.blocks():
                for other in ways_to(made.source, block, MOST):
                    returned = Walk(made, other).returned()
                    if returned is not None and returned[0] != returned[1]:
                        unlike.append(len(other))
            if way is None:
                found[None] += 1
                self.assertEqual(unlike, [])
                continue
            returned = Walk(made, way).returned()
            self.assertNotEqual(returned[0], returned[1])
            found[len(way)] = found.get(len(way), 0) + 1
            self.assertEqual(len(way), min(unlike, default=len(way)))
        self.assertTrue(found[None] > 5 and len(found) > 3, found)


if __name__ == "__main__":
    unittest.main()
