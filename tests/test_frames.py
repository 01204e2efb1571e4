"""Frames beneath: where the values of callers lie."""

import random
import unittest

from tests.brute import few_rounds, random_made, random_source, random_table, some_made, walks_to
from tests.test_standing import lattice, turning
from tests.values import ODD_VALUES, LikeAll, doc_made, ring_made, unreached_made
from valueshown.errors import BadFrame, BadShown, BadStop, TooMany, UnknownName
from valueshown.frames import Stack, lies_now
from valueshown.made import Made
from valueshown.players import Walk
from valueshown.sources import Source
from valueshown.tables import Table
from valueshown.telling import is_asked

A0, A1, A2, B0 = ("a", 0), ("a", 1), ("a", 2), ("b", 0)
MOST = 5


def callee():
    """A made code that saves its entry r in s and t, and then sets r; u is lost at its call."""
    source = Source([("a", (("set", "x", "f", ("i",)),), ("return", "x"))], ["i"])
    rows = (("copy", "s", "r"), ("copy", "t", "r"), ("call", "r", "g", ("p",), ("s", "p")), ("return", "r"))
    return Made(source, {"a": rows}, {"a": (0, 0, 0, 1)}, {"i": "p"}, entries=("r", "u"))


def caller():
    """A made code that calls with i in r, and x as an operation of r and u."""
    source = Source([("a", (("set", "x", "h", ("i", "j")), ("copy", "y", "x")), ("return", "y"))], ["i", "j"])
    rows = (("copy", "s", "r"), ("call", "r", "g", ("r",), ("u", "s")), ("return", "r"))
    return Made(source, {"a": rows}, {"a": (0, 1, 2)}, {"i": "r", "j": "u"}, entries=("s", "v"))


def caller_table():
    return Table(caller(), [(A1, "i", "r"), (A1, "j", "u"), (A1, "x", ("h", "r", "u")), (A1, "y", ("k",))])


def callee_table():
    return Table(callee(), [(stop, "i", "p") for stop in callee().stops("a")] + [(("a", 2), "x", ("f", "p"))])


def outermost():
    """A made code that calls with i in s and in v."""
    source = Source([("a", (), ("go", "a"))], ["i", "j"])
    return Made(source, {"a": (("copy", "v", "s"), ("call", "s", "g", (), ()))}, {"a": (0, 0, 0)}, {"i": "s", "j": "w"})


def outermost_table():
    return Table(outermost(), [(A1, "i", ("f", "v")), (A1, "j", "w")])


def frames():
    return [(callee_table(), ("a", 2)), (caller_table(), A1)]


class LiesNowTest(unittest.TestCase):
    def test_some(self):
        made = callee()
        self.assertEqual(lies_now(made, A0, "r"), ["r"])
        self.assertEqual(lies_now(made, A1, "r"), ["r", "s"])
        self.assertEqual(lies_now(made, A2, "r"), ["r", "s", "t"])
        self.assertEqual(lies_now(made, ("a", 3), "r"), ["s"])
        self.assertEqual(lies_now(made=made, stop=A2, place="u"), ["u"])
        self.assertEqual(lies_now(made, ("a", 3), "u"), [])

    def test_rings(self):
        made = ring_made()
        self.assertEqual(made.entries, ("e", "d"))
        self.assertEqual(lies_now(made, A0, "e"), [])
        self.assertEqual(lies_now(made, A0, "d"), [])
        source = Source([("a", (), ("go", "b")), ("b", (), ("go", "b"))])
        made = Made(source, {"a": (("copy", "s", "e"),), "b": (("copy", "e", "s"),)}, {"a": (0, 0), "b": (0, 0)}, {},
                    entries=("e", "d"))
        self.assertEqual(lies_now(made, B0, "e"), ["e", "s"])
        self.assertEqual(lies_now(made, B0, "d"), ["d"])

    def test_a_value_that_is_set_again_is_not_the_entry(self):
        # Both places have one value, but not that of the entry, which is gone.
        source = Source([("a", (), ("go", "a"))])
        made = Made(source, {"a": (("set", "e", "f", ()), ("copy", "s", "e"))}, {"a": (0, 0, 0)}, {}, entries=("e",))
        self.assertEqual(lies_now(made, A0, "e"), [])
        self.assertEqual(lies_now(made, A2, "e"), [])
        made = Made(source, {"a": (("copy", "t", "e"), ("copy", "e", "d"), ("copy", "d", "t"))}, {"a": (0,) * 4}, {},
                    entries=("e", "d"))
        self.assertEqual(lies_now(made, A0, "e"), [])

    def test_against_walks(self):
        most = 0
        for made in few_rounds(some_made(121, 150), MOST):
            for stop in made.all_stops():
                if not is_asked(made, stop):
                    continue
                walks = walks_to(made, stop[0], MOST + 1)
                for entry in made.entries:
                    right = [
                        place for place in made.places()
                        if all(walk.held(stop[1])[place] == ("entry", entry) for walk in walks)
                    ]
                    found = lies_now(made, stop, entry)
                    if found != right:
                        # It may be that the entry's own mark takes one round more to be told apart.
                        self.assertTrue(set(found) <= set(right))
                        longer = walks_to(made, stop[0], 8)
                        right = [
                            place for place in right
                            if all(walk.held(stop[1])[place] == ("entry", entry) for walk in longer)
                        ]
                    self.assertEqual(found, right)
                    most = max(most, len(found))
        self.assertTrue(most > 1)

    def test_long_rings(self):
        base = turning(12)
        words = [f"p{letter}" for letter in "abcdefghijkl"]
        made = Made(base.source, {"a": (), "b": base.rows("b")}, {"a": (0,), "b": base.labels("b")}, {},
                    entries=tuple(words))
        for word in words:
            self.assertEqual(lies_now(made, A0, word), [word])
            self.assertEqual(lies_now(made, B0, word), [])
        # All have the last one's value: it is there for ever.
        rows = tuple(("copy", word, "pl") for word in words[:-1])
        made = Made(base.source, {"a": rows, "b": base.rows("b")}, {"a": (0,) * 12, "b": base.labels("b")}, {},
                    entries=tuple(words))
        self.assertEqual(lies_now(made, B0, "pl"), words)
        self.assertEqual(lies_now(made, B0, "pa"), [])
        self.assertEqual(lies_now(made, ("b", 13), "pl"), words + ["t"])

    def test_errors(self):
        made = unreached_made()
        for value in ODD_VALUES + (("a", 1), ("a", False), B0, ("d", 0), ("z", 0), ["a", 0], "a"):
            with self.assertRaises(BadStop) as caught:
                lies_now(made, value, "none")
            self.assertTrue(caught.exception.stop is value)
        for value in ODD_VALUES + ("p", "s", "i", "none", ("r",), "ru"):
            with self.assertRaises(BadShown) as caught:
                lies_now(callee(), A0, value)
            self.assertTrue(caught.exception.what is value)
        with self.assertRaises(BadShown):
            lies_now(doc_made(), A0, "p")

    def test_lists_are_new(self):
        made = callee()
        lies_now(made, A1, "r").clear()
        self.assertEqual((lies_now(made, A1, "r"), made), (["r", "s"], callee()))

    def test_too_many_nodes(self):
        for call in (lambda: lies_now(lattice(16), A0, "p"), lambda: stack_of_lattice().beneath(1, "p"),
                     lambda: stack_of_lattice().shown(1, "i"), lambda: stack_of_lattice().shown_names(1)):
            with self.assertRaises(TooMany) as caught:
                call()
            self.assertEqual(caught.exception.limit, 20000)
        self.assertEqual(stack_of_lattice().beneath(0, "p"), ["p"])


def stack_of_lattice():
    source = Source([("a", (), ("go", "a"))], ["i"])
    made = Made(source, {"a": (("call", "p", "f", ("q",), ()),)}, {"a": (0, 0)}, {"i": "q"})
    return Stack([(Table(lattice(16)), A0), (Table(made, [(A0, "i", "q")]), A0)])


class StackTest(unittest.TestCase):
    def test_beneath(self):
        stack = Stack(frames())
        self.assertEqual(len(stack), 2)
        for place in callee().places():
            self.assertEqual(stack.beneath(0, place), [place])
        self.assertEqual(stack.beneath(1, "r"), ["r", "s", "t"])
        self.assertEqual(stack.beneath(depth=1, place="u"), ["u"])
        # What is no entry of the callee can't be found.
        self.assertEqual(stack.beneath(1, "s"), [])
        self.assertEqual(stack.beneath(1, "v"), [])

    def test_three_frames(self):
        stack = Stack(frames() + [(outermost_table(), A1)])
        self.assertEqual(len(stack), 3)
        # v is still in v of the caller, which is no entry of the callee; s has been set there.
        self.assertEqual(stack.beneath(2, "v"), [])
        self.assertEqual(stack.beneath(2, "s"), [])
        self.assertEqual(stack.beneath(2, "w"), [])
        source = Source([("a", (), ("go", "a"))])
        middle = Made(source, {"a": (("copy", "u", "s"), ("copy", "r", "s"), ("call", "a", "g", (), ()))},
                      {"a": (0,) * 4}, {}, entries=("s", "v"))
        stack = Stack([(callee_table(), ("a", 2)), (Table(middle), ("a", 2)), (outermost_table(), A1)])
        self.assertEqual(stack.beneath(1, "r"), ["r", "s", "t"])
        # Around the block the entry is lost to all but the first time: nothing always has it.
        self.assertEqual(stack.beneath(2, "s"), [])
        source = Source([("a", (), ("go", "b")), ("b", (), ("go", "b"))])
        rows = middle.rows("a")
        middle = Made(source, {"a": rows, "b": ()}, {"a": (0,) * 4, "b": (0,)}, {}, entries=("s", "v"))
        stack = Stack([(callee_table(), ("a", 2)), (Table(middle), ("a", 2)), (outermost_table(), A1)])
        self.assertEqual(stack.beneath(2, "s"), ["r", "s", "t", "u"])
        self.assertEqual(stack.beneath(2, "v"), [])
        stack = Stack([(callee_table(), ("a", 3)), (Table(middle), ("a", 2)), (outermost_table(), A1)])
        self.assertEqual(stack.beneath(2, "s"), ["s"])
        self.assertEqual(stack.beneath(1, "u"), [])

    def test_shown(self):
        stack = Stack(frames())
        self.assertEqual([stack.shown(0, name) for name in ("i", "x")], ["p", ("f", "p")])
        self.assertEqual([stack.shown(1, name) for name in "ijxy"], ["r", "u", ("h", "r", "u"), ("k",)])
        self.assertEqual(stack.shown(depth=1, name="i"), "r")
        self.assertEqual(stack.shown_names(0), ["i", "x"])
        self.assertEqual(stack.shown_names(depth=1), ["i", "j", "x", "y"])
        # Behind the call, r lies in s alone, and u nowhere.
        stack = Stack([(callee_table(), ("a", 3)), frames()[1]])
        self.assertEqual([stack.shown(1, name) for name in "ijxy"], ["s", None, None, ("k",)])
        self.assertEqual(stack.shown_names(1), ["i", "y"])
        self.assertEqual([stack.shown(0, name) for name in "ix"], ["p", None])
        self.assertEqual(stack.shown_names(0), ["i"])

    def test_names_that_a_table_does_not_show(self):
        stack = Stack([frames()[0], (Table(caller()), A1), (outermost_table(), A1)])
        self.assertEqual(stack.shown_names(1), [])
        self.assertEqual(stack.shown(1, "i"), None)
        self.assertEqual(stack.shown_names(2), [])
        self.assertEqual(stack.shown(2, "i"), None)

    def test_one_frame(self):
        table = caller_table()
        stack = Stack(((table, A2),))
        self.assertEqual((len(stack), stack.shown_names(0), stack.beneath(0, "v")), (1, [], ["v"]))
        self.assertEqual(Stack(frames=[(table, A1)]).shown_names(0), ["i", "j", "x", "y"])

    def test_eight_frames(self):
        source = Source([("a", (), ("go", "b")), ("b", (), ("go", "b"))], ["i"])
        made = Made(source, {"a": (("copy", "s", "r"), ("copy", "r", "p"), ("call", "q", "f", (), ())), "b": ()},
                    {"a": (0,) * 4, "b": (0,)}, {"i": "p"}, entries=("r", "s"))
        frame = (Table(made, [(A2, "i", "r")]), A2)
        stack = Stack([frame] * 8)
        self.assertEqual(len(stack), 8)
        self.assertEqual([stack.beneath(depth, "r") for depth in range(3)], [["r"], ["s"], []])
        self.assertEqual([stack.shown(depth, "i") for depth in range(8)], ["r", "s"] + [None] * 6)
        with self.assertRaises(BadFrame) as caught:
            Stack([frame] * 9)
        self.assertEqual(caught.exception.frame, None)
        rows = made.with_rows("a", (("copy", "s", "r"), ("copy", "t", "p"), ("call", "q", "f", (), ())), (0,) * 4)
        stack = Stack([(Table(rows, [(A2, "i", "r")]), A2)] * 8)
        self.assertEqual(stack.beneath(7, "r"), ["r", "s"])
        self.assertEqual(stack.shown(7, "i"), "r")
        self.assertEqual(stack.beneath(7, "t"), [])

    def test_against_plain_search(self):
        rng = random.Random(122)
        found = 0
        for _ in range(150):
            stack, parts = random_stack(rng)
            self.assertEqual(len(stack), len(parts))
            for depth in range(len(parts)):
                table, stop = parts[depth]
                homes = {place: plain_beneath(parts[:depth], place) for place in table.made.places()}
                for place, right in homes.items():
                    self.assertEqual(stack.beneath(depth, place), right)
                    found += depth > 0 and len(right) > 0
                names = []
                for name in table.made.source.names():
                    entry = table.entry(stop, name)
                    right = plain_shown(entry, homes)
                    self.assertEqual(stack.shown(depth, name), right)
                    names.extend([name] if right is not None else [])
                self.assertEqual(stack.shown_names(depth), names)
        self.assertTrue(found > 100, found)

    def test_what_lies_in_a_place_is_there(self):
        # On all ways of the inner frame, the place has what the caller left there, whatever it has done itself.
        rng = random.Random(123)
        for _ in range(40):
            stack, parts = random_stack(rng)
            for depth in range(1, len(parts)):
                inner, stop = parts[depth - 1]
                for place in parts[depth][0].made.places():
                    nearer = Stack(parts[depth - 1:]).beneath(1, place)
                    for home in nearer:
                        for walk in walks_to(inner.made, stop[0], 4):
                            self.assertEqual(walk.held(stop[1])[home], ("entry", place))

    def test_it_does_not_change(self):
        some = frames()
        stack = Stack(some)
        some.clear()
        self.assertEqual(len(stack), 2)
        stack.beneath(1, "r").clear()
        stack.shown_names(1).clear()
        self.assertEqual((stack.beneath(1, "r"), stack.shown_names(1)), (["r", "s", "t"], ["i", "j", "x", "y"]))


class ErrorsTest(unittest.TestCase):
    def check(self, index, value):
        with self.assertRaises(BadFrame) as caught:
            Stack(value)
        self.assertEqual((caught.exception.frame, type(caught.exception.frame)), (index, type(index)))

    def test_no_list(self):
        for value in ODD_VALUES:
            if not isinstance(value, (list, tuple)):
                self.check(None, value)
        for value in ([], (), [None] * 9, frames()[:1] * 9, iter(frames()), "ab"):
            self.check(None, value)

    def test_values_that_are_no_frames(self):
        inner, outer = frames()
        for value in ODD_VALUES + (
            list(inner), inner + (None,), inner[:1], (callee(), A0), (None, A0), (LikeAll(), A0), inner[::-1],
            (callee_table(), ("a", 4)), (callee_table(), ("a", True)), (callee_table(), ["a", 0]), (callee_table(), B0),
            (callee_table(), None), (callee_table(), LikeAll()), (Table(unreached_made()), B0), "ab",
        ):
            self.check(0, [value])
            self.check(0, [value, outer])
            self.check(1, [inner, value])
            self.check(1, (inner, value, None))
            self.check(2, [inner, outer, value])

    def test_stops_that_are_no_calls(self):
        inner, outer = frames()
        for stop in (A0, A2):
            self.check(1, [inner, (caller_table(), stop)])
            self.check(1, [inner, (caller_table(), stop), None])
        self.check(1, [inner, (callee_table(), A0)])
        for stop in callee().stops("a"):
            self.assertEqual(len(Stack([(callee_table(), stop), outer])), 2)
        self.check(2, [inner, outer, (outermost_table(), A0)])

    def test_entries_that_are_no_places_of_the_next_frame(self):
        inner, outer = frames()
        plain = Made(Source([("a", (), ("go", "a"))]), {"a": (("call", "r", "f", (), ()),)}, {"a": (0, 0)}, {})
        less = (Table(plain), A0)
        self.check(0, [inner, less])
        self.check(1, [inner, outer, less])
        self.check(0, [inner, less, outer])
        # Frames that are none come first.
        self.check(2, [inner, less, (outermost_table(), A0)])
        self.check(1, [inner, (caller_table(), A0), less])
        self.assertEqual(len(Stack([less, less, outer])), 3)

    def test_depths(self):
        stack = Stack(frames())
        for value in ODD_VALUES + (2, -1, "0", 0.0):
            for call in (
                lambda: stack.beneath(value, "none"), lambda: stack.shown(value, "none"), lambda: stack.shown_names(value),
            ):
                with self.assertRaises(BadFrame) as caught:
                    call()
                self.assertTrue(caught.exception.frame is value)

    def test_places_and_names(self):
        stack = Stack(frames())
        for value in ODD_VALUES + ("none", "x", ("f", "p"), ("r",)):
            for depth in (0, 1):
                with self.assertRaises(BadShown) as caught:
                    stack.beneath(depth, value)
                self.assertTrue(caught.exception.what is value)
        for depth, place in ((0, "v"), (1, "p"), (1, "t")):
            with self.assertRaises(BadShown):
                stack.beneath(depth, place)
        for value in ODD_VALUES + ("none", "p"):
            for depth in (0, 1):
                with self.assertRaises(UnknownName) as caught:
                    stack.shown(depth, value)
                self.assertTrue(caught.exception.name is value)
        with self.assertRaises(UnknownName):
            stack.shown(0, "y")


def plain_lies(made, stop, entry):
    """The places that have an entry's value on all ways of a few blocks: where entries are soon lost, that is all."""
    walks = [Walk(made, walk.way) for walk in walks_to(made, stop[0], 7)]
    return [place for place in made.places() if all(walk.held(stop[1])[place] == ("entry", entry) for walk in walks)]


def plain_beneath(inner, place):
    found = [place]
    for table, stop in inner[::-1]:
        entries = [place for place in found if place in table.made.entries]
        found = sorted({home for entry in entries for home in plain_lies(table.made, stop, entry)})
    return found


def plain_shown(entry, homes):
    if entry is None:
        return None
    if isinstance(entry, str):
        return homes[entry][0] if homes[entry] else None
    if not all(homes[place] for place in entry[1:]):
        return None
    return (entry[0], *[homes[place][0] for place in entry[1:]])


def random_stack(rng):
    """A stack of made codes of at most two blocks, and its frames."""
    parts = []
    while len(parts) < 3:
        made = random_made(rng, random_source(rng, 2, 2))
        calls = [
            stop for stop in made.all_stops() if is_asked(made, stop)
            and (not parts or [row[0] for row in made.rows(stop[0])[stop[1]:stop[1] + 1]] == ["call"])
        ]
        fits = not parts or set(parts[-1][0].made.entries) <= set(made.places())
        if calls and fits:
            parts.append((random_table(rng, made), rng.choice(calls)))
        elif rng.random() < 0.02 and parts:
            break
    return Stack(parts), parts


if __name__ == "__main__":
    unittest.main()
