"""Playing both programs along ways."""

import random
import unittest

from tests.values import ODD_VALUES, LikeAll, doc_made, ring_made, ring_source
from valueshown.errors import BadRow, BadShown, BadStop, BadValues, BadWay, UnknownName
from valueshown.made import Made
from valueshown.players import Walk, played
from valueshown.sources import Source
from valueshown.terms import worth
from valueshown.ways import ways_to

I = ("input", "i")
J = ("input", "j")


def op(operation, *operands):
    return ("op", operation, operands)


def lost(number):
    return ("lost", number)


def written(operation, operands):
    """A free meaning: it writes itself down."""
    return ("op", operation, operands)


# What the ring's programs set along the way a, b, a.
X_A = op("f", I, J)
X_B = op("g", op("g", X_A))
I_B = op("h")
R_B = op("g", X_A)


class NamedTest(unittest.TestCase):
    def test_example_of_the_document(self):
        walk = Walk(doc_made(), ["a"])
        self.assertEqual(
            [walk.held(1), walk.shown(("a", 0), "p"), walk.history("y", 2)],
            [{"p": op("f", I), "q": I}, None, [None, op("f", I)]],
        )

    def test_attributes(self):
        made = ring_made()
        walk = Walk(made, ["a", "b"])
        self.assertTrue(walk.made is made)
        self.assertEqual((walk.way, type(walk.way)), (("a", "b"), tuple))
        self.assertEqual(Walk(made, ("a",)).way, ("a",))

    def test_named_at_the_beginning(self):
        walk = Walk(ring_made(), ["a"])
        self.assertEqual(walk.named(0), {"i": I, "j": J, "x": None, "y": None})
        self.assertEqual(walk.named(1), {"i": I, "j": J, "x": X_A, "y": None})
        self.assertEqual(walk.named(2), {"i": I, "j": J, "x": X_A, "y": X_A})

    def test_named_along_a_way(self):
        walk = Walk(ring_made(), ["a", "b"])
        self.assertEqual(walk.named(0), {"i": I, "j": J, "x": X_A, "y": X_A})
        self.assertEqual(walk.named(1), {"i": I, "j": J, "x": op("g", X_A), "y": X_A})
        self.assertEqual(walk.named(2), {"i": I_B, "j": J, "x": op("g", X_A), "y": X_A})
        self.assertEqual(walk.named(3), {"i": I_B, "j": J, "x": X_B, "y": X_A})
        walk = Walk(ring_made(), ["a", "b", "a"])
        self.assertEqual(walk.named(2), {"i": I_B, "j": J, "x": op("f", I_B, J), "y": op("f", I_B, J)})

    def test_late_where_nothing_lies_nowhere(self):
        made = Made(Source([("a", (), ("go", "a"))], ["i"]), {"a": ()}, {"a": (0,)}, {"i": "p"})
        self.assertEqual(Walk(made, ["a"]).late(0), {"i": None})
        self.assertEqual(Walk(made, ["a"]).shown(("a", 0), ("k", "p")), op("k", I))

    def test_late(self):
        walk = Walk(ring_made(), ["a"])
        for index in range(3):
            self.assertEqual(walk.late(index), {"i": None, "j": None, "x": None, "y": None})
        walk = Walk(ring_made(), ["a", "b"])
        self.assertEqual(walk.late(0), {"i": None, "j": None, "x": None, "y": None})
        self.assertEqual(walk.late(1), {"i": None, "j": None, "x": X_A, "y": None})
        self.assertEqual(walk.late(2), {"i": I, "j": None, "x": X_A, "y": None})
        self.assertEqual(walk.late(3), {"i": I, "j": None, "x": op("g", X_A), "y": None})
        walk = Walk(ring_made(), ["a", "b", "a"])
        self.assertEqual(walk.late(0), {"i": I, "j": None, "x": op("g", X_A), "y": None})
        self.assertEqual(walk.late(2), {"i": I, "j": None, "x": X_B, "y": X_A})

    def test_late_of_a_name_that_is_copied_to_itself(self):
        s = Source([("a", (("copy", "i", "i"), ("copy", "x", "x"), ("copy", "x", "i")), ("return", "x"))], ["i"])
        walk = Walk(Made.plain(s), ["a"])
        self.assertEqual([walk.late(index)["i"] for index in range(4)], [None, I, I, I])
        self.assertEqual([walk.late(index)["x"] for index in range(4)], [None, None, None, None])
        self.assertEqual([walk.named(index)["x"] for index in range(4)], [None, None, None, I])

    def test_operands_are_read_ahead_of_what_is_set(self):
        s = Source([("a", (("set", "x", "f", ("x", "x")), ("set", "x", "f", ("x", "i"))), ("go", "a"))], ["i"])
        self.assertEqual(Walk(Made.plain(s), ["a"]).named(2)["x"], op("f", op("f", None, None), I))

    def test_bad_rows(self):
        walk = Walk(ring_made(), ["a", "b"])
        for value in (*ODD_VALUES, 4, -1, "0", (0,), 10 ** 30):
            for ask in (walk.named, walk.late, lambda index: walk.history("x", index),
                        lambda index: walk.coming("x", index)):
                with self.assertRaises(BadRow) as caught:
                    ask(value)
                self.assertTrue(caught.exception.index is value)
        for value in (*ODD_VALUES, 3, -1):
            with self.assertRaises(BadRow) as caught:
                walk.held(value)
            self.assertTrue(caught.exception.index is value)

    def test_errors_of_ways(self):
        for way, index in ((None, None), ([], None), ("a", None), (["b"], 0), (["a", "b", "x"], 2), (["a", []], 1)):
            for call in (lambda: Walk(ring_made(), way), lambda: played(ring_made(), way, None, written)):
                with self.assertRaises(BadWay) as caught:
                    call()
                self.assertEqual(caught.exception.index, index)


class HeldTest(unittest.TestCase):
    def test_held_at_the_beginning(self):
        walk = Walk(ring_made(), ["a"])
        entries = {"d": ("entry", "d"), "e": ("entry", "e")}
        self.assertEqual(walk.held(0), {**entries, "p": I, "q": J, "r": None, "s": None})
        self.assertEqual(walk.held(1), {"d": lost(0), "e": ("entry", "e"), "p": I, "q": lost(1), "r": X_A,
                                        "s": lost(2)})
        self.assertEqual(walk.held(2), {"d": lost(0), "e": ("entry", "e"), "p": I, "q": lost(1), "r": X_A, "s": X_A})

    def test_lost_places_along_a_way(self):
        walk = Walk(ring_made(), ["a", "b"])
        self.assertEqual(walk.held(1), {**Walk(ring_made(), ["a"]).held(2), "r": R_B})
        self.assertEqual(walk.held(2), {"d": lost(3), "e": lost(4), "p": I_B, "q": lost(5), "r": R_B, "s": X_A})
        walk = Walk(ring_made(), ["a", "b", "a"])
        self.assertEqual(walk.held(1), {
            "d": lost(6), "e": lost(4), "p": I_B, "q": lost(7), "r": op("f", I_B, lost(5)), "s": lost(8),
        })

    def test_a_call_may_keep_all_or_nothing(self):
        s = Source([("a", (), ("go", "a"))], ["i"])
        for kept, right in (
            (("p", "q", "r"), {"p": I, "q": op("f", I), "r": None}), ((), {"p": lost(0), "q": op("f", I), "r": lost(1)}),
            (("q",), {"p": lost(0), "q": op("f", I), "r": lost(1)}), (("r",), {"p": lost(0), "q": op("f", I), "r": None}),
        ):
            rows = (("call", "q", "f", ("p",), kept), ("copy", "r", "r"))
            walk = Walk(Made(s, {"a": rows}, {"a": (0, 0, 0)}, {"i": "p"}), ["a"])
            self.assertEqual(walk.held(1), right)

    def test_a_call_reads_ahead_of_losing(self):
        s = Source([("a", (), ("go", "a"))], ["i"])
        made = Made(s, {"a": (("call", "p", "f", ("p", "q"), ()),)}, {"a": (0, 0)}, {"i": "q"})
        self.assertEqual(Walk(made, ["a"]).held(1), {"p": op("f", None, I), "q": lost(0)})
        self.assertEqual(Walk(made, ["a", "a"]).held(1), {"p": op("f", op("f", None, I), lost(0)), "q": lost(1)})

    def test_more_made_rows_than_rows(self):
        s = Source([("a", (), ("go", "a"))])
        made = Made(s, {"a": (("set", "p", "f", ()),) * 16}, {"a": (0,) * 17}, {})
        walk = Walk(made, ["a"])
        self.assertEqual([walk.held(index)["p"] for index in (0, 1, 16)], [None, op("f"), op("f")])
        self.assertEqual(walk.named(0), {})


class ShownTest(unittest.TestCase):
    def test_shown(self):
        walk = Walk(ring_made(), ["a", "b"])
        self.assertEqual([walk.shown(("b", index), "r") for index in range(3)], [X_A, R_B, R_B])
        self.assertEqual(walk.shown(("b", 2), ("k",)), op("k"))
        self.assertEqual(walk.shown(("b", 2), ("g", "r")), X_B)
        self.assertEqual(walk.shown(("b", 2), ("k", "s", "q")), op("k", X_A, lost(5)))
        self.assertEqual(walk.shown(("b", 0), ("k", "s", "s")), op("k", X_A, X_A))
        self.assertEqual(Walk(ring_made(), ["a"]).shown(stop=("a", 0), entry="e"), ("entry", "e"))
        self.assertIsNone(Walk(ring_made(), ["a"]).shown(("a", 0), "s"))

    def test_bad_stops(self):
        walk = Walk(ring_made(), ["a", "b"])
        for value in (*ODD_VALUES, ("a", 0), ("c", 0), ("b", 3), ("b", True), ("b", -1), ["b", 0], ("b",), ("b", 0, 0),
                      ("b", None), (["b"], 0), "b", ("d", 0), (LikeAll(), 0)):
            with self.assertRaises(BadStop) as caught:
                walk.shown(value, None)
            self.assertTrue(caught.exception.stop is value)

    def test_bad_entries(self):
        walk = Walk(ring_made(), ["a", "b"])
        # A tuple of one name alone is an operation without operands.
        odd = [value for value in ODD_VALUES if not isinstance(value, tuple)]
        for value in (*odd, "z", "x", "f", ("k", "z"), ("k", "r", "z"), ("k", "r", "r", "r"), (), ["k", "r"], ("K", "r"),
                      ("", "r"), ("k", "r", None), ("k", ["r"]), (None, "r"), (["k"], "r"), ("abcdefghi", "r"),
                      ("k", ("r",)), (LikeAll(), "r"), ("k", LikeAll()), ("k", "r", "i")):
            with self.assertRaises(BadShown) as caught:
                walk.shown(("b", 1), value)
            self.assertTrue(caught.exception.what is value)


class HistoryTest(unittest.TestCase):
    def test_history(self):
        walk = Walk(ring_made(), ["a", "b"])
        self.assertEqual(walk.history("x", 0), [None, X_A])
        self.assertEqual(walk.history("x", 2), [None, X_A, op("g", X_A)])
        self.assertEqual(walk.history("x", 3), [None, X_A, op("g", X_A), X_B])
        self.assertEqual([walk.history("i", 1), walk.history("i", 2)], [[I], [I, I_B]])
        self.assertEqual(walk.history(index=3, name="j"), [J])
        self.assertEqual(walk.history("y", 3), [None, X_A])

    def test_coming(self):
        walk = Walk(ring_made(), ["a", "b"])
        self.assertEqual(walk.coming("x", 0), [op("g", X_A), X_B])
        self.assertEqual([walk.coming("x", 1), walk.coming("x", 2), walk.coming("x", 3)], [[X_B], [X_B], []])
        self.assertEqual([walk.coming("i", 1), walk.coming("i", 2)], [[I_B], []])
        self.assertEqual(walk.coming(index=0, name="y"), [])

    def test_set_to_a_like_value_again(self):
        rows = (("set", "x", "f", ()), ("set", "x", "f", ()), ("copy", "x", "x"))
        walk = Walk(Made.plain(Source([("a", rows, ("go", "a"))])), ["a", "a"])
        self.assertEqual(walk.history("x", 0), [None] + [op("f")] * 3)
        self.assertEqual(walk.history("x", 2), [None] + [op("f")] * 5)
        self.assertEqual(walk.coming("x", 0), [op("f")] * 3)
        self.assertEqual(walk.coming("x", 2), [op("f")])

    def test_unknown_names_ahead_of_bad_rows(self):
        walk = Walk(ring_made(), ["a"])
        for value in (*ODD_VALUES, "z", "p", "f", ("x",), "abcdefghi"):
            for ask in (walk.history, walk.coming):
                for index in (0, None, 99, True):
                    with self.assertRaises(UnknownName) as caught:
                        ask(value, index)
                    self.assertTrue(caught.exception.name is value)


class ReturnedTest(unittest.TestCase):
    def test_with_a_return(self):
        self.assertEqual(Walk(doc_made(), ["a"]).returned(), (op("f", I), op("f", I)))
        self.assertEqual(Walk(ring_made(), ["a", "c"]).returned(), (X_A, X_A))
        self.assertEqual(Walk(ring_made(), ["a", "b", "c"]).returned(), (X_B, R_B))
        self.assertIsInstance(Walk(ring_made(), ["a", "c"]).returned(), tuple)

    def test_behind_the_rows(self):
        s = Source([("a", (("copy", "x", "i"),), ("return", "x"))], ["i"])
        made = Made(s, {"a": (("set", "p", "f", ()), ("copy", "q", "p"), ("return", "q"))}, {"a": (0, 0, 1)}, {"i": "q"})
        self.assertEqual(Walk(made, ["a"]).returned(), (I, op("f")))

    def test_without_a_return(self):
        self.assertIsNone(Walk(ring_made(), ["a"]).returned())
        self.assertIsNone(Walk(ring_made(), ["a", "b"]).returned())


class PlayedTest(unittest.TestCase):
    def test_at_the_end_of_the_last_block(self):
        named, held = played(doc_made(), ["a"], [3], lambda operation, operands: (operation, *operands))
        self.assertEqual(named, {"i": 3, "x": ("f", 3), "y": ("f", 3)})
        self.assertEqual(held, {"p": ("f", 3), "q": 3})

    def test_a_meaning_that_writes_itself_down(self):
        for way in (["a"], ["a", "b"], ["a", "b", "a", "c"], ("a", "b", "a", "b", "c")):
            walk = Walk(ring_made(), way)
            rows, made_rows = len(ring_source().rows(way[-1])), len(ring_made().rows(way[-1]))
            got = played(ring_made(), way, [I, J], written)
            self.assertEqual(got, (walk.named(rows), walk.held(made_rows)))
            self.assertIsInstance(got, tuple)

    def test_calls_and_nothing(self):
        named, held = played(ring_made(), ["a"], [1, 2], lambda operation, operands: operation)
        self.assertEqual(named, {"i": 1, "j": 2, "x": "f", "y": "f"})
        self.assertEqual(held, {"d": lost(0), "e": ("entry", "e"), "p": 1, "q": lost(1), "r": "f", "s": "f"})
        s = Source([("a", (("copy", "x", "y"),), ("go", "a"))], ["i"])
        made = Made(s, {"a": (("copy", "p", "r"),)}, {"a": (0, 1)}, {"i": "q"})
        self.assertEqual(
            played(made, ["a"], ["v"], None), ({"i": "v", "x": None, "y": None}, {"p": None, "q": "v", "r": None})
        )

    def test_bad_values(self):
        for values in ([], [1], [1, 2, 3], (), (1, 2, 3)):
            with self.assertRaises(BadValues) as caught:
                played(ring_made(), ["a"], values, written)
            self.assertEqual(caught.exception.count, 2)
        with self.assertRaises(BadWay):
            played(ring_made(), ["b"], [], written)

    def test_values_of_any_kind(self):
        values = [[1], LikeAll()]
        named, held = played(ring_made(), ["a", "c"], values, lambda operation, operands: operands)
        self.assertTrue(named["i"] is values[0] and held["p"] is values[0] and named["x"][1] is values[1])
        self.assertEqual((len(values), values[0]), (2, [1]))

    def test_by_name_and_with_tuples(self):
        values = [5, 6]
        got = played(values=values, meaning=written, way=["a"], made=ring_made())
        self.assertEqual(got, played(ring_made(), ("a",), (5, 6), written))
        self.assertEqual(values, [5, 6])


class NothingIsKeptTest(unittest.TestCase):
    def test_way_is_not_kept(self):
        way = ["a", "b"]
        walk = Walk(way=way, made=ring_made())
        self.assertEqual(way, ["a", "b"])
        way.append("c")
        self.assertEqual((walk.way, len(walk.held(2))), (("a", "b"), 6))

    def test_what_is_returned_is_new(self):
        walk = Walk(ring_made(), ["a", "b"])
        for ask in (lambda: walk.named(1), lambda: walk.late(1), lambda: walk.held(1), lambda: walk.named(index=3)):
            first = ask()
            as_it_was = dict(first)
            self.assertIsInstance(first, dict)
            first.clear()
            first["z"] = 1
            self.assertEqual(ask(), as_it_was)
        for ask in (lambda: walk.history("x", 3), lambda: walk.coming("x", 0), lambda: walk.coming("j", 0)):
            first = ask()
            as_it_was = list(first)
            self.assertIsInstance(first, list)
            first.append(0)
            self.assertEqual(ask(), as_it_was)
        self.assertEqual(walk.made, ring_made())

    def test_played_dicts_are_new(self):
        first = played(ring_made(), ["a"], [1, 2], written)
        for part in first:
            part.clear()
        self.assertEqual(played(ring_made(), ["a"], [1, 2], written)[0]["i"], 1)


class LongWaysTest(unittest.TestCase):
    def test_deep_terms_that_share_much(self):
        rows = (("set", "x", "f", ("x", "x")), ("set", "y", "f", ("x", "i")))
        s = Source([("a", rows, ("go", "a"))], ["i"])
        made = Made.plain(s)
        walk = Walk(made, ["a"] * 3000)
        self.assertTrue(walk.named(2) == walk.held(2))
        self.assertTrue(walk.shown(("a", 1), ("f", "x", "i")) == walk.named(2)["y"])
        self.assertEqual(len(walk.history("y", 2)), 3001)

    def test_played_along_a_long_way(self):
        s = Source([("a", (("set", "i", "f", ("i", "i")),), ("go", "a"))], ["i"])
        named, held = played(Made.plain(s), ["a"] * 3000, [1], lambda operation, operands: operands[0] + 1)
        self.assertEqual((named, held), ({"i": 3001}, {"i": 3001}))


def some_row(chance, words, calls):
    """A row over some words."""
    kind = chance.choice(["set", "set", "copy", "call"] if calls else ["set", "set", "copy"])
    if kind == "copy":
        return (kind, chance.choice(words), chance.choice(words))
    row = (kind, chance.choice(words), chance.choice("fg"), tuple(chance.choices(words, k=chance.randint(0, 2))))
    if kind == "set":
        return row
    return (*row, tuple(chance.sample(words, chance.randint(0, len(words)))))


def some_made(seed):
    """A made code of three blocks, made by chance from a number."""
    chance = random.Random(seed)
    names, places = ["i", "j", "x", "y"], ["p", "q", "r", "s"]
    blocks = [
        (name, tuple(some_row(chance, names, False) for _ in range(chance.randint(0, 4))), end)
        for name, end in (("a", ("either", "b", "c")), ("b", ("either", "a", "c")), ("c", ("return", "x")))
    ]
    codes, labels = {}, {}
    for name, rows, end in blocks:
        codes[name] = tuple(some_row(chance, places, True) for _ in range(chance.randint(0, 4)))
        labels[name] = (*(chance.randint(0, len(rows)) for _ in codes[name]), len(rows))
        codes[name] += (("return", "p"),) if end[0] == "return" else ()
    return Made(Source(blocks, ["i", "j"]), codes, labels, {"i": "p", "j": "q"}, entries=("s",))


class MeaningsTest(unittest.TestCase):
    def test_like_terms_are_equal_with_all_meanings(self):
        def rough(operation, operands):
            return hash((operation, operands)) // 7 - 3 if None not in operands else 0

        for seed in range(60):
            made = some_made(seed)
            for block in "abc":
                for way in ways_to(made.source, block, 4):
                    self.check_meanings(made, way, rough)

    def check_meanings(self, made, way, meaning):
        walk = Walk(made, way)
        terms = [walk.named(len(made.source.rows(way[-1]))), walk.held(len(made.rows(way[-1])))]
        inputs = {"i": 11, "j": 12}
        for own, values in zip(terms, played(made, way, [11, 12], meaning)):
            self.assertEqual({word: worth(term, inputs, meaning) for word, term in own.items()}, values)
        free = played(made, way, [11, 12], written)
        for name in terms[0]:
            for place in terms[1]:
                self.assertEqual(terms[0][name] == terms[1][place], free[0][name] == free[1][place])


if __name__ == "__main__":
    unittest.main()
