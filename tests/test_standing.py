"""What stands at blocks and stops, for ways of any length."""

import random
import unittest

from tests.brute import random_made, random_mark, random_source, some_made, term_of, terms_at, value_of_ways, walks_to
from tests.values import ODD_VALUES, LikeAll, doc_made, ring_made
from valueshown.errors import BadMark, BadStop, BadWay, TooMany, UnknownBlock
from valueshown.leads import led, led_to
from valueshown.made import Made
from valueshown.players import Walk
from valueshown.shapes import Shape, marks_of
from valueshown.sources import Source
from valueshown.standing import Standing, always, unlike_way
from valueshown.ways import check_way, shortest

MOST = 6


def op(operation, *operands):
    return ("op", operation, operands)


def place(word):
    return ("place", word)


def turning(many, blocks=1):
    """A ring in which places are moved on by one, the first of them having another value than the rest."""
    words = [f"p{letter}" for letter in "abcdefghijklmnopqrstuvwxyz"[:many]]
    rows = [("copy", "t", words[0])] + [("copy", one, other) for one, other in zip(words, words[1:])]
    rows.append(("copy", words[-1], "t"))
    names = "bcdefgh"[:blocks]
    parts = [("a", (), ("go", "b"))]
    parts += [(name, (), ("go", (names + "b")[at + 1])) for at, name in enumerate(names)]
    each = -(-len(rows) // blocks)
    codes = {name: tuple(rows[at * each:(at + 1) * each]) for at, name in enumerate(names)}
    codes["a"] = (("set", words[-1], "h", ()),)
    labels = {name: (0,) * (len(code) + 1) for name, code in codes.items()}
    return Made(Source(parts), codes, labels, {})


def lattice(many):
    """Many ways to one block, whose values have many nodes in common."""
    blocks = [("a", ("either", "b", "c")), ("b", ("either", "d", "e")), ("c", ("either", "d", "e")),
              ("d", ("either", "f", "g")), ("e", ("either", "f", "g")), ("f", ("go", "h")), ("g", ("go", "h")),
              ("h", ("go", "h"))]
    rng = random.Random(0)
    codes = {
        name: tuple([("set", rng.choice("pq"), "g", (rng.choice("pq"), rng.choice("pq"))) for _ in range(many)])
        for name, _ in blocks
    }
    source = Source([(name, (), end) for name, end in blocks])
    return Made(source, codes, {name: (0,) * (many + 1) for name in codes}, {}, entries=("p", "q"))


def unreached():
    """A made code with a block to which no way leads."""
    source = Source([("a", (), ("go", "a")), ("b", (("set", "x", "f", ()),), ("return", "x"))], ["i"])
    return Made(source, {"a": (), "b": (("return", "q"),)}, {"a": (0,), "b": (1,)}, {"i": "p"})


class StandingTest(unittest.TestCase):
    def test_one_block(self):
        made = doc_made()
        standing = Standing(made)
        self.assertTrue(standing.made is made)
        self.assertEqual(len(standing), 1)
        self.assertEqual(standing["a"], Shape.opening(made))
        self.assertEqual(standing.at(("a", 0)), Shape.opening(made))
        self.assertEqual(standing.at(stop=("a", 1)), led(Shape.opening(made), made, "a"))
        self.assertEqual(standing.up_to("a", 1), Shape.opening(made))
        self.assertEqual(Standing(made=made).up_to(block="a", most=7), Shape.opening(made))

    def test_no_marks(self):
        standing = Standing(Made.plain(Source([("a", (), ("go", "a"))])))
        self.assertEqual((standing["a"].value(), len(standing)), (((), ()), 1))

    def test_a_ring(self):
        standing = Standing(ring_made())
        self.assertEqual(standing.up_to("a", 1), Shape.opening(ring_made()))
        self.assertEqual(standing.up_to("a", 2), standing.up_to("a", 1))
        self.assertNotEqual(standing.up_to("a", 3), standing.up_to("a", 2))
        self.assertEqual(standing["a"], standing.up_to("a", len(standing)))
        self.assertTrue(standing["b"].holds(("name", "x"), op("f", place("p"), ("name", "j"))))

    def test_rings_against_walks(self):
        for made in some_made(1, 60):
            standing = Standing(made)
            for block in made.source.reached():
                for most in range(1, MOST + 1):
                    walks = walks_to(made, block, most)
                    if walks:
                        value = value_of_ways([terms_at(walk, 0, 0) for walk in walks])
                        self.assertEqual(standing.up_to(block, most).value(), value)
                self.assertEqual(standing[block], standing.up_to(block, len(standing)))
                self.assertEqual(standing[block], standing.up_to(block, len(standing) + 5))

    def test_what_stands_is_led_to_what_stands(self):
        for made in some_made(2, 60):
            standing = Standing(made)
            self.assertTrue(Shape.opening(made) <= standing[made.source.blocks()[0]])
            for block in made.source.reached():
                for stop in made.stops(block):
                    self.assertEqual(standing.at(stop), led_to(standing[block], made, stop))
                for following in made.source.nexts(block):
                    self.assertTrue(led(standing[block], made, block) <= standing[following])

    def test_len_is_least(self):
        for made in some_made(3, 60):
            standing = Standing(made)
            unlike = []
            for block in made.source.reached():
                for most in range(1, len(standing)):
                    try:
                        shape = standing.up_to(block, most)
                    except BadWay:
                        shape = None
                    if shape != standing[block]:
                        unlike.append(most)
            self.assertEqual(len(standing), max(unlike, default=0) + 1)

    def test_long_rings(self):
        # The value goes through all places, and through the one that keeps the first of them while all are moved.
        self.assertEqual(len(Standing(turning(14))), 16)
        standing = Standing(turning(20, 7))
        self.assertTrue(len(standing) > 7 * 19)
        self.assertNotEqual(standing.up_to("b", 7 * 18), standing["b"])
        way = unlike_way(standing, ("b", 0), place("pa"), place("pb"))
        self.assertEqual(way, list("a" + "bcdefgh" * 18 + "b"))

    def test_places_that_calls_lose(self):
        source = Source([("a", (), ("go", "b")), ("b", (), ("either", "b", "a"))])
        made = Made(
            source, {"a": (("call", "p", "f", (), ("q",)),), "b": (("copy", "q", "r"), ("copy", "s", "r"))},
            {"a": (0, 0), "b": (0, 0, 0)}, {}, entries=("q",),
        )
        standing = Standing(made)
        self.assertTrue(always(standing, ("b", 0), place("p"), op("f")))
        self.assertFalse(always(standing, ("b", 0), place("r"), place("s")))
        self.assertTrue(always(standing, ("b", 2), place("r"), place("s")))
        self.assertEqual(standing["b"].value()[0].count(("nothing",)), 0)

    def test_bad_blocks_and_stops(self):
        standing = Standing(ring_made())
        for value in ODD_VALUES + ("d", ("a", 0)):
            with self.assertRaises(UnknownBlock) as caught:
                standing[value]
            self.assertTrue(caught.exception.block is value)
            with self.assertRaises(UnknownBlock):
                standing.up_to(value, 0)
        for value in ODD_VALUES + ("a", ("a", 3), ("d", 0), ("a", True), ["a", 0]):
            with self.assertRaises(BadStop) as caught:
                standing.at(value)
            self.assertTrue(caught.exception.stop is value)

    def test_bad_ways(self):
        standing = Standing(ring_made())
        for value in ODD_VALUES + (0, -5):
            if isinstance(value, int) and not isinstance(value, bool) and value > 0:
                continue
            with self.assertRaises(BadWay) as caught:
                standing.up_to("a", value)
            self.assertTrue(caught.exception.index is value)
        with self.assertRaises(BadWay) as caught:
            standing.up_to("b", 1)
        self.assertEqual(caught.exception.index, 1)
        self.assertEqual(standing.up_to("b", 2).value()[0], standing.up_to("b", 3).value()[0])

    def test_a_block_to_which_no_way_leads(self):
        standing = Standing(unreached())
        for call in (lambda: standing["b"], lambda: standing.at(("b", 0))):
            with self.assertRaises(BadWay) as caught:
                call()
            self.assertEqual(caught.exception.index, None)
        with self.assertRaises(BadWay) as caught:
            standing.up_to("b", 9)
        self.assertEqual(caught.exception.index, 9)
        self.assertEqual(len(standing), 1)

    def test_it_does_not_change(self):
        made = ring_made()
        standing = Standing(made)
        before = [standing[block].value() for block in made.source.blocks()]
        always(standing, ("c", 0), ("name", "x"), place("r"))
        unlike_way(standing, ("c", 0), ("name", "x"), place("s"))
        standing.up_to("a", 1)
        self.assertEqual(before, [standing[block].value() for block in made.source.blocks()])
        self.assertEqual(made, ring_made())

    def test_it_is_not_iterated(self):
        with self.assertRaises(TypeError):
            iter(Standing(doc_made()))

    def test_too_many_nodes(self):
        with self.assertRaises(TooMany) as caught:
            Standing(lattice(16))
        self.assertEqual(caught.exception.limit, 20000)
        self.assertTrue(100 < len(Standing(lattice(6))["h"]) < 20000)


class AlwaysTest(unittest.TestCase):
    def test_example(self):
        standing = Standing(doc_made())
        self.assertTrue(always(standing, ("a", 1), ("name", "y"), place("p")) is True)
        self.assertTrue(always(standing, ("a", 1), ("name", "y"), op("f", place("q"))) is True)
        self.assertTrue(always(standing, ("a", 0), ("name", "y"), place("q")) is False)
        self.assertEqual(unlike_way(standing, ("a", 1), ("name", "y"), place("p")), None)
        self.assertEqual(unlike_way(standing, ("a", 0), ("name", "y"), place("q")), ["a"])
        self.assertEqual(unlike_way(standing=standing, stop=("a", 0), one=place("p"), other=place("q")), ["a"])
        self.assertTrue(always(standing=standing, stop=("a", 0), one=place("p"), other=place("p")))

    def test_against_walks(self):
        rng = random.Random(4)
        long = 0
        for made in some_made(5, 60):
            standing = Standing(made)
            marks = marks_of(made)
            for stop in made.all_stops():
                walks = walks_to(made, stop[0], MOST)
                terms = [terms_at(walk, made.label(stop), stop[1]) for walk in walks]
                for _ in range(8):
                    one, other = random_mark(rng, marks), random_mark(rng, marks)
                    unlike = [
                        walk.way for walk, told in zip(walks, terms) if term_of(one, told) != term_of(other, told)
                    ]
                    way = unlike_way(standing, stop, one, other)
                    self.assertTrue(always(standing, stop, one, other) is (way is None))
                    if stop[0] in made.source.reached():
                        self.assertEqual(standing.at(stop).holds(one, other), way is None)
                    else:
                        self.assertEqual(way, None)
                    if unlike:
                        self.assertEqual(len(way), len(unlike[0]))
                    if way is not None:
                        long += len(way) > 3
                        self.assertTrue(unlike or len(way) > MOST)
                        self.check_unlike(made, stop, one, other, way)
        self.assertTrue(long > 5)

    def test_one_way_of_four(self):
        # Of two ways twice, on one alone the places that are asked about have unlike values.
        ends = [("a", ("either", "b", "c")), ("b", ("go", "d")), ("c", ("go", "d")), ("d", ("either", "e", "f")),
                ("e", ("go", "g")), ("f", ("go", "g")), ("g", ("go", "g"))]
        source = Source([(block, (), end) for block, end in ends])
        same = (("copy", "s", "r"),), (("copy", "p", "q"),)
        moved = (("copy", "s", "t"),), (("copy", "p", "r"), ("copy", "q", "s"))
        for first in "bc":
            for second in "ef":
                rows = {block: () for block in source.blocks()}
                for block in "bcef":
                    rows[block] = (moved if block in (first, second) else same)[block in "ef"]
                labels = {block: (0,) * (len(some) + 1) for block, some in rows.items()}
                standing = Standing(Made(source, rows, labels, {}, entries=("p", "q", "r", "s", "t")))
                way = ["a", first, "d", second, "g"]
                self.assertEqual(unlike_way(standing, ("g", 0), place("p"), place("q")), way)
                self.assertEqual(unlike_way(standing, ("g", 0), op("f", place("q")), op("f", place("p"))), way)

    def test_where_many_blocks_lead_to_many(self):
        rng = random.Random(9)
        long = 0
        for _ in range(60):
            made = random_made(rng, random_source(rng, 8, 3))
            standing = Standing(made)
            marks = marks_of(made)
            for stop in made.all_stops():
                for _ in range(6):
                    one, other = random_mark(rng, marks, 1), random_mark(rng, marks, 1)
                    way = unlike_way(standing, stop, one, other)
                    if way is not None:
                        long += len(way) > 5
                        self.check_unlike(made, stop, one, other, way)
                        if len(way) > 1 and stop[1] == made.label(stop) == 0:
                            shape = standing.up_to(stop[0], len(way))
                            self.assertFalse(shape.holds(one, other))
                            least = len(shortest(made.source, stop[0]))
                            if len(way) > least:
                                self.assertTrue(standing.up_to(stop[0], len(way) - 1).holds(one, other))
        self.assertTrue(long > 10, long)

    def check_unlike(self, made, stop, one, other, way):
        self.assertEqual(type(way), list)
        check_way(made.source, way)
        self.assertEqual(way[-1], stop[0])
        told = terms_at(Walk(made, way), made.label(stop), stop[1])
        self.assertNotEqual(term_of(one, told), term_of(other, told))

    def test_ways_of_many_blocks(self):
        made = turning(14)
        standing = Standing(made)
        for at, letters in enumerate(zip("abcdefghijklm", "bcdefghijklmn")):
            one, other = [place(f"p{letter}") for letter in letters]
            self.assertEqual(unlike_way(standing, ("b", 0), one, other), ["a"] + ["b"] * (13 - at))
            self.assertEqual(unlike_way(standing, ("a", 0), one, other), None)

    def test_the_beginning_stands_again_in_a_ring(self):
        source = Source([("a", (("copy", "x", "i"),), ("either", "a", "b")), ("b", (), ("return", "x"))], ["i"])
        made = Made(source, {"a": (), "b": (("return", "p"),)}, {"a": (1,), "b": (0,)}, {"i": "p"})
        standing = Standing(made)
        self.assertEqual(unlike_way(standing, ("a", 0), ("late", "x"), place("p")), ["a"])
        self.assertEqual(unlike_way(standing, ("a", 0), ("name", "x"), ("late", "x")), ["a"])
        self.assertTrue(always(standing, ("b", 0), ("name", "x"), place("p")))
        self.assertFalse(always(standing, ("b", 0), ("late", "x"), ("late", "i")))
        self.assertEqual(unlike_way(standing, ("b", 0), ("late", "x"), ("late", "i")), ["a", "a", "b"])

    def test_terms_that_are_deep_and_share_much(self):
        source = Source([("a", (), ("either", "a", "b")), ("b", (), ("go", "b"))])
        made = Made(
            source, {"a": (("set", "p", "g", ("p", "p")), ("set", "q", "g", ("q", "p"))), "b": ()},
            {"a": (0, 0, 0), "b": (0,)}, {}, entries=("p", "q"),
        )
        standing = Standing(made)
        self.assertEqual(unlike_way(standing, ("b", 0), place("p"), place("q")), ["a", "b"])
        made = Made(
            Source([("a", (), ("go", "b")), ("b", (), ("go", "b"))]),
            {"a": (("set", "p", "h", ()), ("set", "q", "h", ())),
             "b": tuple([("set", "p", "g", ("p", "p")), ("set", "q", "g", ("q", "q"))] * 8)},
            {"a": (0, 0, 0), "b": (0,) * 17}, {},
        )
        self.assertTrue(always(Standing(made), ("b", 16), place("p"), place("q")))

    def test_bad_stops_come_first(self):
        standing = Standing(ring_made())
        for value in ODD_VALUES + ("a", ("a", 3), ("d", 0), ("a", True), ["a", 0]):
            for call in (always, unlike_way):
                with self.assertRaises(BadStop) as caught:
                    call(standing, value, None, None)
                self.assertTrue(caught.exception.stop is value)

    def test_bad_marks(self):
        bad = ODD_VALUES + (
            place("z"), ("name", "z"), ("late", "p"), op("f", place("z")), op("f", "p"), ("op", "f", [place("p")]),
            op("f", place("p"), place("p"), place("p")), ["place", "p"], (LikeAll(), "p"),
        )
        for standing, stop in ((Standing(ring_made()), ("c", 0)), (Standing(unreached()), ("b", 0))):
            for mark in bad:
                for call in (always, unlike_way):
                    for one, other in ((mark, None), (place("p"), mark)):
                        with self.assertRaises(BadMark) as caught:
                            call(standing, stop, one, other)
                        self.assertTrue(caught.exception.mark is mark)

    def test_where_no_way_leads_all_are_equal(self):
        standing = Standing(unreached())
        self.assertTrue(always(standing, ("b", 0), place("p"), place("q")) is True)
        self.assertEqual(unlike_way(standing, ("b", 0), place("p"), op("f", place("q"))), None)

    def test_operations_of_no_operands(self):
        for made in some_made(8, 10):
            standing = Standing(made)
            for stop in made.all_stops():
                self.assertTrue(always(standing, stop, op("h"), op("h")))
                self.assertEqual(always(standing, stop, op("h"), op("k")), stop[0] not in made.source.reached())
                way = unlike_way(standing, stop, op("h"), op("h", op("h")))
                least = shortest(made.source, stop[0])
                self.assertEqual(way and len(way), least and len(least))


if __name__ == "__main__":
    unittest.main()
