"""What rows lead to from shapes."""

import unittest

from tests.brute import some_made, terms_at, value_of_ways, walks_to
from tests.values import ODD_VALUES, doc_made, ring_made
from valueshown.errors import BadRow, BadStop, TooMany, UnknownBlock
from valueshown.leads import behind, behind_made, led, led_to
from valueshown.made import Made
from valueshown.shapes import Shape
from valueshown.sources import Source

OPEN, NOTHING = ("open",), ("nothing",)
P, Q, R = ("place", "p"), ("place", "q"), ("place", "r")
LX, LY, X, Y = ("late", "x"), ("late", "y"), ("name", "x"), ("name", "y")


def op(operation, *operands):
    return ("op", operation, operands)


def shape(nodes, *stands):
    return Shape((tuple(nodes), tuple(stands)))


def names():
    return shape([NOTHING, OPEN, OPEN], (LX, 0), (LY, 0), (X, 1), (Y, 2))


def places():
    return shape([OPEN, OPEN, NOTHING], (P, 0), (Q, 1), (R, 2))


class BehindTest(unittest.TestCase):
    def test_set(self):
        self.assertEqual(behind(names(), ("set", "x", "f", ("y", "x"))).value(), (
            (OPEN, NOTHING, OPEN, op("f", 2, 0)), ((LX, 0), (LY, 1), (X, 3), (Y, 2)),
        ))
        self.assertEqual(behind(names(), ("set", "x", "f", ())).value(), (
            (OPEN, NOTHING, op("f"), OPEN), ((LX, 0), (LY, 1), (X, 2), (Y, 3)),
        ))
        self.assertEqual(behind(shape=names(), row=("set", "y", "f", ("y",))).value(), (
            (NOTHING, OPEN, OPEN, op("f", 1)), ((LX, 0), (LY, 1), (X, 2), (Y, 3)),
        ))

    def test_copy(self):
        self.assertEqual(behind(names(), ("copy", "x", "y")).value(), (
            (OPEN, NOTHING, OPEN), ((LX, 0), (LY, 1), (X, 2), (Y, 2)),
        ))
        self.assertEqual(behind(names(), ("copy", "x", "x")).value(), (
            (OPEN, NOTHING, OPEN), ((LX, 0), (LY, 1), (X, 0), (Y, 2)),
        ))

    def test_an_operation_that_is_there_is_met(self):
        one = behind(names(), ("set", "x", "f", ("y",)))
        two = behind(one, ("set", "x", "f", ("y",)))
        self.assertEqual(two.value(), (
            (OPEN, op("f", 0), NOTHING), ((LX, 1), (LY, 2), (X, 1), (Y, 0)),
        ))

    def test_a_name_needs_its_late_name_only_where_it_is_set(self):
        one = shape([OPEN, OPEN], (LX, 0), (X, 1), (Y, 1))
        self.assertEqual(behind(one, ("copy", "x", "y")).value(), ((OPEN,), ((LX, 0), (X, 0), (Y, 0))))
        for row in (("copy", "y", "x"), ("set", "y", "f", ())):
            with self.assertRaises(BadRow) as caught:
                behind(one, row)
            self.assertTrue(caught.exception.index is row)

    def test_other_marks_stay(self):
        one = shape([OPEN, OPEN], (LX, 0), (X, 1), (P, 1))
        self.assertEqual(behind(one, ("copy", "x", "x")).value(), ((OPEN,), ((LX, 0), (X, 0), (P, 0))))
        self.assertEqual(behind_made(one, ("set", "p", "f", ("p",))).value(), (
            (OPEN, OPEN, op("f", 1)), ((LX, 0), (X, 1), (P, 2)),
        ))

    def test_bad_rows(self):
        for row in ODD_VALUES + (
            ("set", "z", "f", ()), ("set", "x", "f", ("z",)), ("copy", "x", "z"), ("copy", "z", "x"),
            ("call", "x", "f", (), ()), ("set", "x", "f", ["y"]), ["copy", "x", "y"], ("copy", "x", None),
            ("set", "x", "f", ("x", "y", "x")), ("return", "x"),
        ):
            with self.assertRaises(BadRow) as caught:
                behind(names(), row)
            self.assertTrue(caught.exception.index is row)
        late_alone = shape([OPEN], (LX, 0))
        with self.assertRaises(BadRow):
            behind(late_alone, ("set", "x", "f", ()))
        with self.assertRaises(BadRow):
            behind(places(), ("copy", "p", "q"))


class BehindMadeTest(unittest.TestCase):
    def test_set_and_copy(self):
        self.assertEqual(behind_made(places(), ("set", "p", "f", ("p", "q"))).value(), (
            (OPEN, OPEN, op("f", 0, 1), NOTHING), ((P, 2), (Q, 1), (R, 3)),
        ))
        self.assertEqual(behind_made(shape=places(), row=("copy", "p", "r")).value(), (
            (NOTHING, OPEN), ((P, 0), (Q, 1), (R, 0)),
        ))

    def test_call(self):
        one = shape([OPEN], (P, 0), (Q, 0), (R, 0))
        self.assertEqual(behind_made(one, ("call", "p", "f", ("q",), ("r",))).value(), (
            (OPEN, op("f", 0), OPEN), ((P, 1), (Q, 2), (R, 0)),
        ))
        self.assertEqual(behind_made(one, ("call", "p", "f", (), ())).value(), (
            (op("f"), OPEN, OPEN), ((P, 0), (Q, 1), (R, 2)),
        ))
        self.assertEqual(behind_made(one, ("call", "p", "f", ("p", "p"), ("p", "q", "r"))).value(), (
            (OPEN, op("f", 0, 0)), ((P, 1), (Q, 0), (R, 0)),
        ))

    def test_a_call_loses_no_names(self):
        one = shape([OPEN], (LX, 0), (X, 0), (P, 0), (Q, 0))
        self.assertEqual(behind_made(one, ("call", "p", "f", (), ())).value(), (
            (OPEN, op("f"), OPEN), ((LX, 0), (X, 0), (P, 1), (Q, 2)),
        ))

    def test_bad_rows(self):
        for row in ODD_VALUES + (
            ("set", "z", "f", ()), ("set", "p", "f", ("z",)), ("copy", "p", "z"), ("copy", "z", "p"),
            ("call", "z", "f", (), ()), ("call", "p", "f", ("z",), ()), ("call", "p", "f", (), ("z",)),
            ("call", "p", "f", (), ("q", "q")), ("call", "p", "f", (), ["q"]), ("call", "p", "f", ()), ("return", "p"),
        ):
            with self.assertRaises(BadRow) as caught:
                behind_made(places(), row)
            self.assertTrue(caught.exception.index is row)
        with self.assertRaises(BadRow):
            behind_made(names(), ("copy", "x", "y"))


class LedTest(unittest.TestCase):
    def test_led(self):
        made = doc_made()
        self.assertEqual(led(Shape.opening(made), made, "a"), led_to(Shape.opening(made), made, ("a", 1)))
        self.assertEqual(led(shape=Shape.opening(made), made=made, block="a").value()[0], (
            NOTHING, OPEN, op("f", 1),
        ))

    def test_row_by_row(self):
        made = ring_made()
        one = Shape.opening(made)
        for block in ("a", "b", "a", "c"):
            for stop in made.stops(block):
                two = one
                for row in made.source.rows(block)[:made.label(stop)]:
                    two = behind(two, row)
                for row in made.rows(block)[:stop[1]]:
                    two = behind_made(two, row)
                self.assertEqual(led_to(shape=one, made=made, stop=stop), two)
            one = led(one, made, block)
            self.assertEqual(one.all_marks(), two.all_marks())

    def test_a_label_may_be_less_than_the_one_ahead(self):
        made = ring_made()
        one = Shape.opening(made)
        self.assertEqual(made.labels("b"), (1, 0, 3))
        self.assertTrue(led_to(one, made, ("b", 0)).holds(X, op("g", LX)))
        self.assertFalse(led_to(one, made, ("b", 1)).holds(X, op("g", LX)))

    def test_against_walks(self):
        for made in some_made(7, 60):
            for block in made.source.reached():
                walks = walks_to(made, block, 4)
                if not walks:
                    continue
                begin = Shape(value_of_ways([terms_at(walk, 0, 0) for walk in walks]))
                for stop in made.stops(block):
                    terms = [terms_at(walk, made.label(stop), stop[1]) for walk in walks]
                    self.assertEqual(led_to(begin, made, stop).value(), value_of_ways(terms))

    def test_errors(self):
        made = doc_made()
        one = Shape.opening(made)
        for value in ODD_VALUES + (("a", 2), ("a", True), ("b", 0), ["a", 0]):
            with self.assertRaises(BadStop) as caught:
                led_to(one, made, value)
            self.assertTrue(caught.exception.stop is value)
            with self.assertRaises(UnknownBlock):
                led(one, made, value)
        for other, row in (
            (shape([OPEN], (P, 0), (Q, 0)), ("set", "x", "f", ("i",))),
            (shape([OPEN], *[(mark, 0) for mark in one.all_marks()[:-1]]), ("set", "p", "f", ("q",))),
        ):
            with self.assertRaises(BadRow) as caught:
                led(other, made, "a")
            self.assertEqual(caught.exception.index, row)

    def test_arguments_stay(self):
        made = ring_made()
        one = Shape.opening(made)
        value = one.value()
        led(one, made, "b")
        behind(one, ("copy", "x", "y"))
        behind_made(one, ("call", "p", "f", (), ()))
        self.assertEqual(one.value(), value)
        self.assertEqual(made, ring_made())


class TooManyTest(unittest.TestCase):
    def test_more_than_20000_nodes(self):
        many = tuple([OPEN] + [op("f", index) for index in range(19999)])
        one = Shape((many, ((P, 19999), (Q, 0))))
        self.assertEqual(len(behind_made(one, ("set", "p", "f", ("q",)))), 2)
        for row in (("set", "q", "g", ("p",)), ("set", "p", "g", ("p",)), ("call", "q", "g", ("p",), ("p",))):
            with self.assertRaises(TooMany) as caught:
                behind_made(one, row)
            self.assertEqual(caught.exception.limit, 20000)
        named = Shape((many, ((LX, 0), (X, 19999))))
        with self.assertRaises(TooMany):
            behind(named, ("set", "x", "g", ("x",)))
        self.assertEqual(len(behind(named, ("copy", "x", "x"))), 20000)

    def test_in_the_rows_of_a_block(self):
        many = tuple([OPEN] + [op("f", index) for index in range(19999)])
        made = Made(Source([("a", (), ("go", "a"))]), {"a": (("set", "p", "f", ("p",)),)}, {"a": (0, 0)}, {})
        one = Shape((many, ((P, 19999),)))
        with self.assertRaises(TooMany):
            led(one, made, "a")
        with self.assertRaises(TooMany):
            led_to(one, made, ("a", 1))
        self.assertEqual(led_to(one, made, ("a", 0)), one)


if __name__ == "__main__":
    unittest.main()
