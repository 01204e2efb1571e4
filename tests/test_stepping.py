"""Stops that may be left out."""

import itertools
import random
import unittest

from tests.brute import few_rounds, random_table, renamed, some_made, told_on_all, walks_to, words_of
from tests.test_standing import lattice
from tests.values import ODD_VALUES, LikeAll, Unprintable, doc_made, ring_made, unreached_made
from valueshown.errors import TooMany, UnknownBlock, UnknownName
from valueshown.made import Made
from valueshown.sources import Source
from valueshown.stepping import is_stepping, longest_stepping, stepped, steppings
from valueshown.tables import Table
from valueshown.telling import can_be_told, told_by

A0, A1 = ("a", 0), ("a", 1)
MOST = 5


def labelled(*labels):
    """A made code of one block with these labels, where i can be told at all stops, and j until it is lost."""
    rows = tuple(("copy", "s", "p") for _ in labels[1:])
    source = Source([("a", tuple(("copy", "x", "i") for _ in range(labels[-1])), ("go", "a"))], ["i", "j"])
    return Made(source, {"a": rows}, {"a": labels}, {"i": "p", "j": "q"})


def all_steppings(made, block, names):
    """All steppings of a block, by a plain search over all rising lists of indexes."""
    stops = made.stops(block)
    fitting = [stop[1] for stop in stops if all(can_be_told(made, stop, name) for name in names)]
    found = []
    for many in range(len(stops) + 1):
        for chosen in itertools.combinations(range(len(stops)), many):
            labels = [made.labels(block)[index] for index in chosen]
            if set(chosen) <= set(fitting) and labels == sorted(set(labels)):
                found.append(list(chosen))
    return found


class LongestTest(unittest.TestCase):
    def test_example_of_the_document(self):
        self.assertEqual(longest_stepping(doc_made(), "a", ["x"]), [0, 1])

    def test_labels_rise(self):
        for labels, right in (
            ((0,), [0]), ((2,), [0]), ((0, 1, 2), [0, 1, 2]), ((0, 0, 0), [0]), ((1, 0, 2), [0, 2]),
            ((2, 0, 1, 2), [1, 2, 3]), ((2, 2, 2), [0]), ((0, 3, 1, 2, 3), [0, 2, 3, 4]), ((1, 0, 1, 0, 2), [1, 2, 4]),
            ((1, 2, 0, 1, 3), [0, 1, 4]), ((3, 2, 1, 0, 3), [1, 4]), ((5, 4, 3, 2, 1, 0, 6), [0, 6]),
        ):
            self.assertEqual(longest_stepping(labelled(*labels), "a", ["i"]), right, labels)
            self.assertEqual(longest_stepping(made=labelled(*labels), block="a", names=()), right, labels)

    def test_stops_at_which_a_name_cannot_be_told(self):
        source = Source([("a", (("copy", "x", "i"), ("copy", "x", "j")), ("return", "x"))], ["i", "j"])
        made = Made(source, {"a": (("call", "p", "f", (), ("q",)), ("copy", "r", "q"), ("return", "r"))},
                    {"a": (0, 1, 2)}, {"i": "p", "j": "q"})
        self.assertEqual(longest_stepping(made, "a", ["i"]), [0])
        self.assertEqual(longest_stepping(made, "a", ["j"]), [0, 1, 2])
        self.assertEqual(longest_stepping(made, "a", ["x"]), [0, 2])
        self.assertEqual(longest_stepping(made, "a", ["x", "i"]), [0])
        self.assertEqual(longest_stepping(made, "a", ["i", "i"]), [0])
        lost = made.with_rows("a", (("call", "p", "f", (), ()), ("call", "q", "f", (), ()), ("return", "q")), (1, 1, 2))
        self.assertEqual(longest_stepping(lost, "a", ["j"]), [0])
        gone = Made(source, {"a": (("return", "r"),)}, {"a": (2,)}, {"i": "p", "j": "q"}, entries=("r",))
        self.assertEqual(longest_stepping(gone, "a", ["i"]), [0])
        unlike = made.with_rows("a", (("call", "r", "f", (), ()), ("return", "r")), (0, 2))
        self.assertEqual(longest_stepping(unlike, "a", ["j"]), [0])
        self.assertEqual(longest_stepping(unlike.with_rows("a", (("copy", "p", "q"), ("return", "p")), (1, 2)), "a", "i"),
                         [0])

    def test_no_stops(self):
        source = Source([("a", (), ("go", "a"))], ["i", "j"])
        made = Made(source, {"a": (("call", "p", "f", (), ()),)}, {"a": (0, 0)}, {"i": "p", "j": "q"})
        self.assertEqual(longest_stepping(made, "a", ["i"]), [])
        self.assertEqual(longest_stepping(made, "a", []), [0])
        self.assertTrue(is_stepping(made, "a", ["i"], []) is True)
        self.assertTrue(is_stepping(made, "a", ["i"], [0]) is False)

    def test_against_a_plain_search(self):
        rng = random.Random(71)
        for made in few_rounds(some_made(71, 60), MOST):
            for block in made.source.reached():
                names = rng.sample(made.source.names(), min(len(made.source.names()), rng.randint(0, 2)))
                right = all_steppings(made, block, names)
                longest = max(len(part) for part in right)
                self.assertEqual(longest_stepping(made, block, names), min(p for p in right if len(p) == longest))
                for some in itertools.chain.from_iterable(
                    itertools.permutations(range(len(made.stops(block))), many) for many in range(3)
                ):
                    self.assertTrue(is_stepping(made, block, names, list(some)) is (list(some) in right))
                for part in right:
                    self.assertTrue(is_stepping(made, block, names, part))
                for index in longest_stepping(made, block, names):
                    for name in names:
                        self.assertTrue(told_on_all(made, (block, index), name, walks_to(made, block, MOST)))

    def test_random_labels(self):
        rng = random.Random(72)
        for _ in range(60):
            labels = [rng.randint(0, 6) for _ in range(rng.randint(1, 9))] + [6]
            made = labelled(*labels)
            right = all_steppings(made, "a", [])
            longest = max(len(part) for part in right)
            self.assertEqual(longest_stepping(made, "a", []), min(part for part in right if len(part) == longest))

    def test_sixteen_rows(self):
        labels = tuple([0, 0, 1, 1, 2, 2, 3, 3, 4, 4, 5, 5, 6, 0, 6, 1, 6])
        self.assertEqual(longest_stepping(labelled(*labels), "a", ["i"]), [0, 2, 4, 6, 8, 10, 12])


class IsSteppingTest(unittest.TestCase):
    def test_values(self):
        made = labelled(0, 1, 1, 0, 2)
        for value in ([], [0], [4], [0, 1], [0, 2, 4], [3, 4], [0, 1, 4]):
            self.assertTrue(is_stepping(made, "a", ["i"], value) is True)
        for value in (
            [1, 2], [0, 3], [1, 3, 4], [1, 0], [0, 0], [4, 4], [5], [-1], [0, 5], [0, True], [True], [False], [0, False],
            (), (0,), (0, 1), [None], ["0"], [[0]], [0.0], [LikeAll()], [0, LikeAll()], [Unprintable()], [0, 1, None],
        ):
            self.assertTrue(is_stepping(made, "a", ["i"], value) is False, value)
        for value in ODD_VALUES:
            self.assertTrue(is_stepping(made, "a", ["i"], value) is (isinstance(value, list) and not value))
        self.assertTrue(is_stepping(made=made, block="a", names=["i"], value=[0]))

    def test_names_count(self):
        source = Source([("a", (("copy", "x", "j"),), ("go", "b")), ("b", (), ("go", "b"))], ["i", "j"])
        made = Made(source, {"a": (("call", "q", "f", (), ("p",)),), "b": ()}, {"a": (0, 1), "b": (0,)},
                    {"i": "p", "j": "q"})
        self.assertTrue(is_stepping(made, "a", ["i"], [0, 1]))
        self.assertFalse(is_stepping(made, "a", ["j"], [0, 1]))
        self.assertTrue(is_stepping(made, "a", ["j"], [0]))
        self.assertFalse(is_stepping(made, "a", ["i", "j"], [1]))


class SteppingsTest(unittest.TestCase):
    def test_blocks_to_which_ways_lead_in_order(self):
        made = unreached_made()
        self.assertEqual(list(steppings(made, ["x"]).items()), [("a", [0]), ("c", [0])])
        source = Source([("a", (), ("go", "c")), ("b", (), ("return", "x")), ("c", (), ("go", "b"))])
        self.assertEqual(list(steppings(Made.plain(source), [])), ["a", "b", "c"])
        self.assertEqual(source.reached(), ["a", "c", "b"])

    def test_against_longest(self):
        for made in some_made(73, 40):
            names = made.source.names()[:2]
            found = steppings(made=made, names=names)
            reached = made.source.reached()
            self.assertEqual(list(found), [block for block in made.source.blocks() if block in reached])
            for block, part in found.items():
                self.assertEqual(part, longest_stepping(made, block, names))
            found.clear()
            self.assertTrue(steppings(made, names))

    def test_stepped(self):
        table = Table(doc_made(), [(A1, "y", ("f", "q")), (A0, "x", "q")])
        self.assertEqual(list(stepped(table=table, names=["y", "x"])), [
            (A0, {"y": "p", "x": "p"}), (A1, {"y": ("f", "q"), "x": "p"}),
        ])
        self.assertEqual([list(told) for _, told in stepped(table, ("y", "x"))], [["y", "x"], ["y", "x"]])
        self.assertEqual(list(stepped(table, [])), [(A0, {}), (A1, {})])
        self.assertEqual(list(stepped(table, ["x", "y", "x"]))[0], (A0, {"x": "p", "y": "p"}))

    def test_stepped_is_a_generator(self):
        steps = stepped(Table(doc_made()), ["x"])
        self.assertTrue(iter(steps) is steps)
        self.assertEqual(next(steps), (A0, {"x": "p"}))
        self.assertEqual(next(steps), (A1, {"x": "p"}))
        self.assertEqual(list(steps), [])
        # The error comes with the first item.
        for names in (["z"], ["x", None], [LikeAll()]):
            steps = stepped(Table(doc_made()), names)
            with self.assertRaises(UnknownName) as caught:
                next(steps)
            self.assertTrue(caught.exception.name is names[-1])

    def test_stepped_against_steppings(self):
        rng = random.Random(74)
        own = 0
        for made in some_made(74, 50):
            table = random_table(rng, made)
            names = made.source.names()[::-1][:3]
            stops = [(block, index) for block, part in steppings(made, names).items() for index in part]
            found = list(stepped(table, names))
            self.assertEqual([stop for stop, _ in found], stops)
            for stop, told in found:
                self.assertEqual(list(told), names)
                for name, entry in told.items():
                    some = told_by(made, stop, name)
                    if table.entry(stop, name) in some:
                        own += entry != some[0]
                        self.assertEqual(entry, table.entry(stop, name))
                    else:
                        self.assertEqual(entry, some[0])
        self.assertTrue(own > 5)

    def test_other_words(self):
        rng = random.Random(75)
        for made in some_made(75, 25):
            words = words_of(made)
            new = ["w" + letter for letter in "abcdefghijklmnopqrstuvwxyz"[:len(words)]]
            rng.shuffle(new)
            change = dict(zip(words, new))
            names = made.source.names()[:2]
            here = steppings(made, names)
            there = steppings(renamed(made, change), [change[name] for name in names])
            self.assertEqual(there, {change[block]: part for block, part in here.items()})


class ErrorsTest(unittest.TestCase):
    def test_unknown_blocks_come_first(self):
        for made in (ring_made(), unreached_made()):
            bad = ODD_VALUES + ("z", "x", ("a", 0)) + (("b", "d") if made == unreached_made() else ())
            for value in bad:
                for call in (
                    lambda: longest_stepping(made, value, ["none"]), lambda: is_stepping(made, value, ["none"], None),
                ):
                    with self.assertRaises(UnknownBlock) as caught:
                        call()
                    self.assertTrue(caught.exception.block is value)

    def test_unknown_names(self):
        made = ring_made()
        for value in ODD_VALUES + ("p", "none"):
            for call in (
                lambda names: longest_stepping(made, "a", names), lambda names: is_stepping(made, "a", names, None),
                lambda names: steppings(made, names), lambda names: list(stepped(Table(made), names)),
            ):
                for names in ([value], ["x", value, "none"], (value, None)):
                    with self.assertRaises(UnknownName) as caught:
                        call(names)
                    self.assertTrue(caught.exception.name is value)

    def test_too_many_nodes(self):
        made = lattice(16)
        for call in (
            lambda: longest_stepping(made, "h", []), lambda: is_stepping(made, "h", [], [0]), lambda: steppings(made, []),
            lambda: list(stepped(Table(made), [])),
        ):
            with self.assertRaises(TooMany):
                call()

    def test_arguments_stay(self):
        names, value = ["x", "y"], [0, 1]
        made = ring_made()
        longest_stepping(made, "a", names).append(9)
        is_stepping(made, "a", names, value)
        steppings(made, names)["a"].append(9)
        list(stepped(Table(made), names))
        self.assertEqual((names, value, made), (["x", "y"], [0, 1], ring_made()))
        self.assertFalse(9 in longest_stepping(made, "a", names) + steppings(made, names)["a"])


if __name__ == "__main__":
    unittest.main()
