"""Shapes: their values, what holds by them, what they have in common, and which is within which."""

import random
import unittest

from tests.brute import NAMES, random_mark, some_made, terms_at, term_of, value_of_ways, walks_to
from tests.values import ODD_VALUES, LikeAll, doc_made, ring_made
from valueshown.errors import BadMark, BadShape, TooMany
from valueshown.made import Made
from valueshown.nodes import Overlay, numbered
from valueshown.shapes import Shape, marks_of
from valueshown.sources import Source

OPEN, NOTHING = ("open",), ("nothing",)
P, Q, R, S = ("place", "p"), ("place", "q"), ("place", "r"), ("place", "s")
X, LATE = ("name", "x"), ("late", "x")


def op(operation, *operands):
    return ("op", operation, operands)


def shape(nodes, *stands):
    return Shape((tuple(nodes), tuple(stands)))


def chain(many, begin=OPEN, operation="f"):
    """Nodes of which each is an operation of the one ahead."""
    return [begin] + [op(operation, index) for index in range(many - 1)]


class MarksTest(unittest.TestCase):
    def test_marks_of(self):
        self.assertEqual(marks_of(doc_made()), [
            ("late", "i"), ("late", "x"), ("late", "y"), ("name", "i"), ("name", "x"), ("name", "y"), P, Q,
        ])
        marks = marks_of(made=ring_made())
        self.assertEqual(marks, sorted(marks))
        self.assertEqual([mark[1] for mark in marks if mark[0] == "place"], ["d", "e", "p", "q", "r", "s"])
        self.assertFalse(marks_of(doc_made()) is marks_of(doc_made()))
        self.assertEqual(marks_of(Made.plain(Source([("a", (), ("go", "a"))]))), [])


class ValueTest(unittest.TestCase):
    def test_values_that_are_taken(self):
        for value in (
            ((), ()),
            ((OPEN,), ((P, 0),)),
            ((NOTHING,), ((P, 0), (Q, 0))),
            ((OPEN, OPEN), ((P, 0), (Q, 1))),
            ((OPEN, op("f", 0)), ((P, 1),)),
            ((OPEN, op("f", 0)), ((P, 0), (Q, 1))),
            ((op("f"), op("g", 0, 0)), ((LATE, 0), (P, 1))),
            ((OPEN, op("f", 0), op("g", 1, 0)), ((P, 2),)),
            ((OPEN, OPEN, op("f", 0, 1), op("f", 1, 0), op("f", 0)), ((P, 2), (Q, 3), (R, 4))),
            ((NOTHING, OPEN), ((LATE, 0), (X, 1), (P, 1))),
        ):
            one = Shape(value)
            self.assertEqual(one.value(), value)
            self.assertEqual(len(one), len(value[0]))
            self.assertEqual(one.all_marks(), [mark for mark, _ in value[1]])
            self.assertEqual(Shape(value=one.value()), one)

    def test_values_that_are_none(self):
        right = ((OPEN, op("f", 0)), ((P, 0), (Q, 1)))
        for value in ODD_VALUES + (
            (right,), right + ((),), list(right), ([OPEN, op("f", 0)], right[1]), (right[0], list(right[1])),
            (None, ()), ((), None), (right[0], ()), ((), right[1]), ((), ((P, 0),)),
            # nodes
            (("open",), ((P, 0),)), ((["open"],), ((P, 0),)), ((("open", 0),), ((P, 0),)), (((),), ((P, 0),)),
            ((("shut",),), ((P, 0),)), (((LikeAll(),),), ((P, 0),)), ((LikeAll(),), ((P, 0),)), ((None,), ((P, 0),)),
            ((("op", "f"),), ((P, 0),)), ((("op", "f", (), ()),), ((P, 0),)), ((("op", "f", []),), ((P, 0),)),
            ((("op", "F", ()),), ((P, 0),)), ((("op", None, ()),), ((P, 0),)), ((("op", "f", None),), ((P, 0),)),
            ((OPEN, op("f", 0, 0, 0)), ((P, 1),)), ((OPEN, op("f", None)), ((P, 0), (Q, 1))),
            ((OPEN, op("f", False)), ((P, 0), (Q, 1))), ((OPEN, op("f", "0")), ((P, 0), (Q, 1))),
            ((OPEN, op("f", 0.0)), ((P, 0), (Q, 1))), ((OPEN, op("f", -1)), ((P, 0), (Q, 1))),
            ((OPEN, op("f", 1)), ((P, 0), (Q, 1))), ((OPEN, op("f", 2)), ((P, 0), (Q, 1))),
            ((op("f", 1), OPEN), ((P, 0), (Q, 1))), ((op("f", 0),), ((P, 0),)),
            # stands
            ((OPEN,), (P, 0)), ((OPEN,), ((P,),)), ((OPEN,), ((P, 0, 0),)), ((OPEN,), ([P, 0],)), ((OPEN,), (None,)),
            ((OPEN,), ((P, False),)), ((OPEN,), ((P, 1),)), ((OPEN,), ((P, -1),)), ((OPEN,), ((P, None),)),
            ((OPEN,), ((list(P), 0),)), ((OPEN,), ((("place", "P"), 0),)), ((OPEN,), ((("place", None), 0),)),
            ((OPEN,), ((("mark", "p"), 0),)), ((OPEN,), ((("place",), 0),)), ((OPEN,), ((None, 0),)),
            ((OPEN, op("f", 0)), ((P, 0), (op("f", P), 1))), ((OPEN,), ((LikeAll(), 0),)),
            # their order
            ((OPEN,), ((Q, 0), (P, 0))), ((OPEN,), ((P, 0), (P, 0))), ((OPEN,), ((P, 0), (X, 0))),
            ((OPEN,), ((X, 0), (LATE, 0))), ((OPEN, OPEN), ((P, 0), (P, 1))),
            ((OPEN, OPEN), ((P, 1), (Q, 0))), ((OPEN, NOTHING), ((P, 1), (Q, 0))),
            ((OPEN, OPEN, op("f", 1, 0)), ((P, 2),)), ((OPEN, op("f", 0), OPEN), ((P, 0), (Q, 2), (R, 1))),
            # alike or needless nodes
            ((NOTHING, NOTHING), ((P, 0), (Q, 1))), ((op("f"), op("f")), ((P, 0), (Q, 1))),
            ((OPEN, op("f", 0), op("f", 0)), ((P, 1), (Q, 2))),
            ((OPEN, OPEN), ((P, 0),)), ((OPEN, op("f", 0)), ((P, 0),)), ((OPEN,), ()),
            ((OPEN, op("f", 0), op("g", 1)), ((P, 0), (Q, 1))),
        ):
            with self.assertRaises(BadShape) as caught:
                Shape(value)
            self.assertTrue(caught.exception.part is value)

    def test_at_most_20000_nodes(self):
        value = (tuple(chain(20000)), ((P, 19999),))
        self.assertEqual(Shape(value).value(), value)
        value = (tuple(chain(20001)), ((P, 20000),))
        with self.assertRaises(BadShape) as caught:
            Shape(value)
        self.assertTrue(caught.exception.part is value)

    def test_equal(self):
        one = shape([OPEN, op("f", 0)], (P, 0), (Q, 1))
        self.assertEqual(one, shape([OPEN, op("f", 0)], (P, 0), (Q, 1)))
        for other in (
            shape([OPEN, op("f", 0)], (P, 0), (R, 1)), shape([OPEN, op("g", 0)], (P, 0), (Q, 1)),
            shape([NOTHING, op("f", 0)], (P, 0), (Q, 1)), one.value(), None, LikeAll,
        ):
            self.assertFalse(one == other)

    def test_the_shape_does_not_change(self):
        one = shape([OPEN], (P, 0), (Q, 0))
        one.all_marks().clear()
        self.assertEqual(one.all_marks(), [P, Q])
        one & one
        one.holds(op("f", P), Q)
        self.assertEqual(one.value(), ((OPEN,), ((P, 0), (Q, 0))))


class HoldsTest(unittest.TestCase):
    def test_what_holds(self):
        one = shape([OPEN, op("f", 0), OPEN, op("g", 1, 2)], (P, 0), (Q, 1), (R, 2), (S, 3))
        for left, right in (
            (P, P), (op("f", P), Q), (op("g", Q, R), S), (op("g", op("f", P), R), S), (op("h", Q), op("h", op("f", P))),
            (op("h"), op("h")), (op("h", op("h", Q)), op("h", op("h", op("f", P)))),
        ):
            self.assertTrue(one.holds(left, right) is True)
            self.assertTrue(one.holds(one=right, other=left) is True)
        for left, right in (
            (P, Q), (P, R), (op("f", R), Q), (op("f", Q), Q), (op("f", P, P), Q), (op("f"), Q), (op("k", P), Q),
            (op("g", R, Q), S), (op("h"), op("k")), (op("h", P), op("h", R)), (op("h", P), op("h", P, P)),
            (op("h", op("k", P)), op("k", op("h", P))), (P, op("h", P)),
        ):
            self.assertTrue(one.holds(left, right) is False)
            self.assertTrue(one.holds(right, left) is False)

    def test_nothing_and_no_operands(self):
        one = shape([NOTHING, op("h"), OPEN], (P, 0), (Q, 1), (R, 2))
        self.assertTrue(one.holds(op("h"), Q))
        self.assertTrue(one.holds(op("f", op("h")), op("f", Q)))
        self.assertFalse(one.holds(op("f", P), op("f", R)))
        self.assertTrue(Shape(((), ())).holds(op("h"), op("h")))

    def test_bad_marks(self):
        one = shape([OPEN, op("f", 0)], (P, 0), (Q, 1))
        bad = ODD_VALUES + (
            R, X, op("f", R), op("f", op("f", X)), ["place", "p"], ("place",), ("place", "p", "q"), ("place", ["p"]),
            ("op", "f"), ("op", "f", [P]), ("op", "F", (P,)), op("f", P, P, P), op("f", "p"), ("f", P), op(None),
            ("op", ["f"], ()), op("f", LikeAll()), (LikeAll(), "p"), ("place", LikeAll()), ("late", "p"),
        )
        for mark in bad:
            self.assertTrue((mark in one) is False)
            for call in (lambda: one.holds(mark, P), lambda: one.holds(P, mark), lambda: one.holds(mark, None)):
                with self.assertRaises(BadMark) as caught:
                    call()
                self.assertTrue(caught.exception.mark is mark)
        for mark in (P, Q, op("f", P), op("k"), op("g", P, op("k", Q, Q))):
            self.assertTrue((mark in one) is True)

    def test_against_terms(self):
        rng = random.Random(11)
        for made in some_made(21, 40):
            marks = marks_of(made)
            for walk in walks_to(made, made.source.blocks()[0], 3):
                terms = terms_at(walk, 0, 0)
                one = Shape(value_of_ways([terms]))
                for _ in range(10):
                    left, right = random_mark(rng, marks), random_mark(rng, marks)
                    self.assertEqual(one.holds(left, right), term_of(left, terms) == term_of(right, terms))


def random_shape(rng, marks):
    """A shape of terms of little depth, so that much is in common."""
    leaves = [None, ("input", "i"), ("input", "j")]
    terms = list(leaves)
    for _ in range(rng.randint(0, 6)):
        operation, many = rng.choice((("f", 1), ("f", 1), ("g", 2), ("h", 0)))
        terms.append(op(operation, *[rng.choice(terms) for _ in range(many)]))
    return {mark: rng.choice(terms) for mark in marks}


class CommonTest(unittest.TestCase):
    def test_some(self):
        one = shape([OPEN, op("f", 0)], (P, 0), (Q, 1), (R, 1))
        other = shape([OPEN, op("f", 0), op("f", 1)], (P, 0), (Q, 1), (R, 2))
        self.assertEqual((one & other).value(), (
            (OPEN, op("f", 0), OPEN, op("f", 2)), ((P, 0), (Q, 1), (R, 3)),
        ))
        one = shape([NOTHING, op("h"), op("f", 1)], (P, 0), (Q, 1), (R, 2), (S, 0))
        other = shape([NOTHING, op("k"), op("f", 1)], (P, 0), (Q, 1), (R, 2), (S, 1))
        self.assertEqual((one & other).value(), (
            (NOTHING, OPEN, op("f", 1), OPEN), ((P, 0), (Q, 1), (R, 2), (S, 3)),
        ))
        one = shape([OPEN, op("f", 0)], (P, 1))
        other = shape([OPEN, op("f", 0, 0)], (P, 1))
        self.assertEqual((one & other).value(), ((OPEN,), ((P, 0),)))
        self.assertEqual(Shape(((), ())) & Shape(((), ())), Shape(((), ())))

    def test_the_common_shape_is_that_of_all_terms(self):
        rng = random.Random(5)
        marks = [LATE, X, P, Q, R]
        for _ in range(400):
            all_terms = [random_shape(rng, marks) for _ in range(3)]
            one, other, third = [Shape(value_of_ways([terms])) for terms in all_terms]
            self.assertEqual((one & other).value(), value_of_ways(all_terms[:2]))
            self.assertEqual((one & other & third).value(), value_of_ways(all_terms))
            self.assertEqual(one & (other & third), (one & other) & third)
            self.assertEqual(one & other, other & one)
            self.assertEqual(one & one, one)
            self.assertEqual(Shape((one & other).value()), one & other)
            for left, right in [(random_mark(rng, marks), random_mark(rng, marks)) for _ in range(5)]:
                self.assertEqual((one & other).holds(left, right), one.holds(left, right) and other.holds(left, right))

    def test_within(self):
        rng = random.Random(6)
        marks = [X, P, Q]
        some = []
        for _ in range(40):
            terms = [random_shape(rng, marks) for _ in range(rng.randint(1, 3))]
            some.append(Shape(value_of_ways(terms)))
        for one in some:
            self.assertTrue((one <= one) is True)
            for other in some:
                both = one & other
                self.assertTrue(one <= both and other <= both)
                # The common shape is the least one that both are within.
                self.assertTrue((one <= other) is (both == other))
                for third in some:
                    if one <= third and other <= third:
                        self.assertTrue(both <= third)
        self.assertTrue(any(one <= other and one != other for one in some for other in some))

    def test_some_within_others(self):
        nothing, free = shape([NOTHING], (P, 0), (Q, 0)), shape([OPEN], (P, 0), (Q, 0))
        two = shape([OPEN, OPEN], (P, 0), (Q, 1))
        deep = shape([OPEN, op("f", 0)], (P, 1), (Q, 1))
        deeper = shape([OPEN, op("f", 0), op("f", 1)], (P, 2), (Q, 2))
        mixed = shape([OPEN, op("f", 0), OPEN, op("f", 2)], (P, 1), (Q, 3))
        for one, other in ((nothing, free), (free, two), (deep, free), (deeper, deep), (deep, mixed), (nothing, two)):
            self.assertTrue(one <= other)
            self.assertFalse(other <= one)
        for one, other in ((nothing, deep), (deep, nothing), (two, deep), (shape([op("h")], (P, 0), (Q, 0)), deep)):
            self.assertFalse(one <= other)
        pair = shape([OPEN, op("g", 0, 0)], (P, 0), (Q, 1))
        unlike = shape([OPEN, OPEN, op("g", 0, 1)], (P, 0), (Q, 2))
        self.assertTrue(pair <= unlike)
        self.assertFalse(unlike <= pair)
        self.assertFalse(shape([OPEN, op("g", 0)], (P, 0), (Q, 1)) <= pair)
        self.assertFalse(shape([OPEN, op("f", 0, 0)], (P, 0), (Q, 1)) <= pair)
        # A node is met by an operand and by a mark, which tell different things of it.
        ring = shape([OPEN, op("f", 0)], (P, 1), (Q, 0))
        self.assertFalse(shape([OPEN, op("f", 0), OPEN], (P, 1), (Q, 2)) <= ring)
        self.assertTrue(Shape(((), ())) <= Shape(((), ())))

    def test_marks_that_differ(self):
        one = shape([OPEN], (P, 0), (Q, 0))
        for other in ODD_VALUES + (one.value(), shape([OPEN], (P, 0)), shape([OPEN], (P, 0), (R, 0)), Shape(((), ()))):
            with self.assertRaises(BadShape) as caught:
                one & other
            self.assertTrue(caught.exception.part is other)
            with self.assertRaises(BadShape) as caught:
                one <= other
            self.assertTrue(caught.exception.part is other)

    def test_too_many_nodes(self):
        def ladder(swapped, many):
            # Each node has the two below it as operands: in common, each pair of nodes is met.
            nodes = [OPEN, op("g", 0, 0)]
            for index in range(2, many):
                below = (index - 2, index - 1) if swapped(index) else (index - 1, index - 2)
                nodes.append(op("g", *below))
            return nodes

        def arranged(nodes):
            value = []
            numbers = {}

            def number(index):
                if index not in numbers:
                    part = nodes[index]
                    if part[0] == "op":
                        part = op(part[1], *[number(operand) for operand in part[2]])
                    numbers[index] = len(value)
                    value.append(part)
                return numbers[index]

            at = number(len(nodes) - 1)
            return Shape((tuple(value), ((P, at),)))

        one = arranged(ladder(lambda index: index % 2 == 0, 400))
        other = arranged(ladder(lambda index: index % 3 == 0, 400))
        with self.assertRaises(TooMany) as caught:
            one & other
        self.assertEqual(caught.exception.limit, 20000)
        small = arranged(ladder(lambda index: index % 2 == 0, 40)) & arranged(ladder(lambda index: index % 3 == 0, 40))
        self.assertTrue(40 < len(small) < 20000)

    def test_20000_nodes_are_not_too_many(self):
        long = shape(chain(20000), (P, 19999))
        self.assertEqual(long & long, long)
        self.assertTrue(long <= long)
        self.assertEqual(len(long & shape(chain(20000, NOTHING), (P, 19999))), 20000)
        self.assertEqual(len(long & shape(chain(100), (P, 99))), 100)


class NumbersTest(unittest.TestCase):
    def test_what_is_no_node_has_numbers_of_its_own(self):
        nodes = [OPEN, op("f", 0), NOTHING, op("g", 0, 1)]
        for many in range(len(nodes) + 1):
            overlay = Overlay(numbered(nodes[:many]))
            found = [overlay.opened(), overlay.given("h", ()), overlay.opened(), overlay.opened(), overlay.given("h", (0,))]
            self.assertEqual(len(set(found)), 5)
            self.assertTrue(max(found) < 0)
            self.assertEqual(overlay.given("h", ()), found[1])
            self.assertEqual(overlay.given("f", (0,)) == 1, many > 1)
            self.assertEqual(overlay.given("g", (0, 1)) == 3, many > 3)


class OpeningTest(unittest.TestCase):
    def test_example(self):
        self.assertEqual(Shape.opening(doc_made()).value(), (
            (NOTHING, OPEN),
            ((("late", "i"), 0), (("late", "x"), 0), (("late", "y"), 0), (("name", "i"), 1), (X, 0), (("name", "y"), 0),
             (P, 0), (Q, 1)),
        ))

    def test_inputs_and_entries(self):
        nodes, stands = Shape.opening(made=ring_made()).value()
        spots = dict(stands)
        self.assertEqual(nodes, (NOTHING, OPEN, OPEN, OPEN, OPEN))
        self.assertEqual(spots[("name", "i")], spots[P])
        self.assertEqual(spots[("name", "j")], spots[Q])
        self.assertEqual(len({spots[mark] for mark in (P, Q, ("place", "d"), ("place", "e"), R)}), 5)
        self.assertEqual(spots[S], 0)

    def test_no_inputs_and_no_marks(self):
        made = Made.plain(Source([("a", (("copy", "x", "y"),), ("go", "a"))]))
        self.assertEqual(Shape.opening(made).value()[0], (NOTHING,))
        made = Made.plain(Source([("a", (), ("go", "a"))]))
        self.assertEqual(Shape.opening(made).value(), ((), ()))
        made = Made(Source([("a", (), ("go", "a"))]), {"a": ()}, {"a": (0,)}, {}, entries=("p", "q"))
        self.assertEqual(Shape.opening(made).value(), ((OPEN, OPEN), ((P, 0), (Q, 1))))

    def test_against_walks(self):
        for made in some_made(3, 40):
            first = made.source.blocks()[0]
            terms = terms_at(walks_to(made, first, 1)[0], 0, 0)
            self.assertEqual(Shape.opening(made).value(), value_of_ways([terms]))
            self.assertTrue(set(made.source.names()) <= set(NAMES))


if __name__ == "__main__":
    unittest.main()
