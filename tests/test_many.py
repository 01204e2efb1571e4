"""Many small questions of one made code: shapes behind six ways, held against the document, and how long it took."""

import itertools
import random
import sys
import time
import unittest

from tests.brute import random_made, random_source, term_of, terms_at, value_of_ways
from valueshown.leads import led
from valueshown.made import Made
from valueshown.players import Walk
from valueshown.shapes import Shape, marks_of
from valueshown.sources import Source
from valueshown.ways import ways_to


def four_blocks():
    """A source of four blocks."""
    return Source([
        ("a", (("set", "x", "f", ("i",)), ("copy", "y", "x"), ("set", "z", "g", ("x", "y"))), ("either", "b", "c")),
        ("b", (("copy", "x", "y"), ("set", "y", "f", ("z",))), ("go", "d")),
        ("c", (("set", "x", "g", ("z", "x")), ("copy", "z", "y")), ("either", "a", "d")),
        ("d", (("copy", "i", "x"), ("set", "x", "f", ("y",))), ("either", "b", "c")),
    ], ["i", "j"])


def four_blocks_made():
    """A made code for it, with a row left out, and a call more."""
    source = four_blocks()
    home = dict(zip("xyzij", "pqrst"))
    codes, labels = {}, {}
    for block in source.blocks():
        codes[block] = [
            ("copy", home[row[1]], home[row[2]]) if row[0] == "copy"
            else ("set", home[row[1]], row[2], tuple(home[name] for name in row[3]))
            for row in source.rows(block)
        ]
        labels[block] = list(range(len(codes[block])))
    codes["b"].pop()
    labels["b"].pop()
    codes["c"].insert(-1, ("call", "u", "f", ("p",), ("q", "r", "s")))
    labels["c"].insert(-1, 1)
    return Made(
        source, {block: tuple(rows) for block, rows in codes.items()},
        {block: (*some, len(source.rows(block))) for block, some in labels.items()}, {"i": "s", "j": "t"},
    )


def some_of_four_blocks():
    rng = random.Random(151)
    found = [four_blocks_made(), Made.plain(four_blocks())]
    while len(found) < 6:
        made = random_made(rng, random_source(rng, 4, 4))
        if len(made.source.reached()) == 4 and len(six_ways(made)) == 6:
            found.append(made)
    return found


def six_ways(made):
    """Six ways of at most three blocks, or all there are."""
    ways = [way for block in made.source.reached() for way in ways_to(made.source, block, 3)]
    return sorted(ways, key=lambda way: (-len(way), way))[:6]


class ManyQuestionsTest(unittest.TestCase):
    def setUp(self):
        self.counts = {"&": 0, "<=": 0, "led": 0}

    def common(self, one, other):
        self.counts["&"] += 1
        return one & other

    def within(self, one, other):
        self.counts["<="] += 1
        return one <= other

    def led(self, shape, made, block):
        self.counts["led"] += 1
        return led(shape, made, block)

    def shapes(self, made):
        """The shapes behind six ways, by `led`, block by block; and those ways."""
        ways = six_ways(made)
        found = []
        for way in ways:
            shape = Shape.opening(made)
            for block in way:
                shape = self.led(shape, made, block)
            found.append(shape)
        return found, ways

    def ask_all(self, made):
        """All questions of one made code, with what can be seen from the answers alone."""
        shapes, _ = self.shapes(made)
        asked = list(shapes)
        pairs = {}
        for (at, one), (beside, other) in itertools.product(enumerate(shapes), repeat=2):
            both = self.common(one, other)
            pairs[(at, beside)] = both
            # Both are within their common shape.
            self.assertTrue(self.within(one, both) and self.within(other, both))
            self.assertEqual(self.within(one, other), both == other)
        for at, beside in itertools.combinations(range(len(shapes)), 2):
            self.assertEqual(pairs[(at, beside)], pairs[(beside, at)])
            asked.append(pairs[(at, beside)])
        for group in itertools.combinations(range(len(shapes)), 3):
            one, other, third = [shapes[at] for at in group]
            all_three = self.common(pairs[group[:2]], third)
            self.assertEqual(all_three, self.common(one, pairs[group[1:]]))
            asked.append(all_three)
        told = {}
        for (at, one), (beside, other) in itertools.product(enumerate(asked), repeat=2):
            told[(at, beside)] = self.within(one, other)
        for at, beside in told:
            # Within one another are only those that are equal.
            self.assertEqual(told[(at, beside)] and told[(beside, at)], asked[at] == asked[beside])
        for block in made.source.blocks():
            behind = [self.led(shape, made, block) for shape in asked]
            for at, beside in itertools.product(range(len(shapes)), range(len(asked))):
                # What is within another one is led to what is within that what the other one is led to.
                self.assertTrue(not told[(at, beside)] or self.within(behind[at], behind[beside]))
        return asked

    def test_answers_and_how_long_they_take(self):
        for made in some_of_four_blocks():
            begin = time.perf_counter()
            asked = self.ask_all(made)
            spent = time.perf_counter() - begin
            told = ", ".join(f"{many} times {word}" for word, many in self.counts.items())
            print(f"\n{len(asked)} shapes: {told}, in {spent * 1000:.1f} thousandths of a second", file=sys.stderr)
            self.assertEqual(len(asked), 41)
            self.setUp()

    def test_against_terms(self):
        rng = random.Random(152)
        for made in some_of_four_blocks():
            shapes, ways = self.shapes(made)
            terms = []
            for way in ways:
                walk = Walk(made, way)
                block = way[-1]
                terms.append(terms_at(walk, len(made.source.rows(block)), len(made.rows(block))))
            self.assertEqual([shape.value() for shape in shapes], [value_of_ways([some]) for some in terms])
            marks = marks_of(made)
            for many in (2, 3):
                for group in itertools.combinations(range(len(shapes)), many):
                    shape = shapes[group[0]]
                    for at in group[1:]:
                        shape = shape & shapes[at]
                    self.assertEqual(shape.value(), value_of_ways([terms[at] for at in group]))
                    self.assertEqual(Shape(shape.value()), shape)
                    for at in range(len(shapes)):
                        fits = value_of_ways([terms[index] for index in (*group, at)]) == shape.value()
                        self.assertTrue((shapes[at] <= shape) is fits)
                    one, other = rng.choice(marks), rng.choice(marks)
                    held = all(term_of(one, terms[at]) == term_of(other, terms[at]) for at in group)
                    self.assertTrue(shape.holds(one, other) is held)

    def test_shapes_that_are_led_to_are_like_those_of_their_values(self):
        for made in some_of_four_blocks()[:3]:
            shapes, _ = self.shapes(made)
            for one, other in itertools.product(shapes, repeat=2):
                again = Shape(one.value()) & Shape(other.value())
                self.assertEqual((again, again.value()), (one & other, (one & other).value()))
                self.assertEqual(Shape(one.value()) <= other, one <= Shape(other.value()))
                for block in made.source.blocks():
                    self.assertEqual(led(Shape(again.value()), made, block), led(one & other, made, block))


if __name__ == "__main__":
    unittest.main()
