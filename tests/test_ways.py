"""Ways through the blocks of a source."""

import itertools
import unittest

from tests.values import ODD_VALUES, LikeAll, ring_source
from valueshown.errors import BadWay, UnknownBlock
from valueshown.sources import Source
from valueshown.ways import check_way, shortest, ways_to


def source_of(*rows):
    """A source without rows: for each block a word of its name and those of the next ones."""
    blocks = []
    for row in rows:
        name, *nexts = row.split()
        ends = {0: ("return", "x"), 1: ("go", *nexts), 2: ("either", *nexts)}
        blocks.append((name, (), ends[len(nexts)]))
    return Source(blocks)


# Two diamonds in a ring, a ring of one block, and blocks to which no way leads.
TANGLE = source_of("a c b", "b d e", "c d", "d a f", "e e", "f", "u v f", "v v u")


class CheckWayTest(unittest.TestCase):
    def check(self, index, source, way):
        with self.assertRaises(BadWay) as caught:
            check_way(source, way)
        self.assertEqual((caught.exception.index, type(caught.exception.index)), (index, type(index)))

    def test_ways(self):
        for way in (["a"], ["a", "b"], ["a", "b", "a", "b", "c"], ["a", "c"], ("a",), ("a", "b", "c")):
            self.assertIsNone(check_way(ring_source(), way))
        self.assertIsNone(check_way(source=TANGLE, way=["a", "b", "e", "e", "e"]))
        self.assertIsNone(check_way(TANGLE, ["a", "b", "d"] * 500))

    def test_no_list(self):
        for value in (None, True, 3, "a", "ab", b"a", {}, {"a": "b"}, {"a"}, object(), LikeAll(), iter(["a"])):
            self.check(None, ring_source(), value)

    def test_no_item(self):
        self.check(None, ring_source(), [])
        self.check(None, ring_source(), ())

    def test_first_item_that_does_not_fit(self):
        self.check(0, ring_source(), ["b"])
        self.check(0, ring_source(), ["x", None])
        self.check(1, ring_source(), ["a", "a", "x"])
        self.check(2, ring_source(), ["a", "b", "b", "c"])
        self.check(2, ring_source(), ["a", "c", "a"])
        self.check(2, ring_source(), ("a", "c", "a"))

    def test_any_value_as_an_item(self):
        for value in ODD_VALUES:
            self.check(0, ring_source(), [value])
            self.check(1, ring_source(), ["a", value])
            self.check(2, ring_source(), ["a", "b", value, None])

    def test_way_stays_as_it_was(self):
        way = ["a", "b", "c"]
        check_way(ring_source(), way)
        self.assertEqual(way, ["a", "b", "c"])


class WaysToTest(unittest.TestCase):
    def test_order(self):
        s = ring_source()
        self.assertEqual(ways_to(s, "c", 1), [])
        self.assertEqual(ways_to(s, "c", 4), [["a", "c"], ["a", "b", "c"], ["a", "b", "a", "c"]])
        self.assertEqual(ways_to(s, "a", 5), [["a"], ["a", "b", "a"], ["a", "b", "a", "b", "a"]])
        self.assertEqual(ways_to(TANGLE, "d", 3), [["a", "c", "d"], ["a", "b", "d"]])
        self.assertEqual(ways_to(TANGLE, "a", 4), [["a"], ["a", "c", "d", "a"], ["a", "b", "d", "a"]])
        self.assertEqual(
            ways_to(TANGLE, "e", 6),
            [[*"abe"], [*"abee"], [*"abeee"], [*"acdabe"], [*"abdabe"], [*"abeeee"]],
        )

    def test_all_ways(self):
        for source in (ring_source(), TANGLE):
            for block in source.blocks():
                right = []
                for many in range(1, 6):
                    for way in itertools.product(source.blocks(), repeat=many):
                        steps = zip(way, way[1:])
                        if way[0] == "a" and way[-1] == block and all(to in source.nexts(at) for at, to in steps):
                            right.append(list(way))
                found = ways_to(source, block, 5)
                self.assertEqual(sorted(found, key=lambda way: (len(way), way)), right)

    def test_eight_blocks(self):
        s = source_of("a b a", "b a b")
        found = ways_to(s, "b", 8)
        self.assertEqual(len(found), sum(2 ** (many - 2) for many in range(2, 9)))
        self.assertEqual(found[:5], [["a", "b"], ["a", "b", "b"], ["a", "a", "b"], [*"abab"], [*"abbb"]])
        self.assertEqual(len(found[-1]), 8)

    def test_no_way(self):
        for block in "uv":
            self.assertEqual(ways_to(TANGLE, block, 8), [])

    def test_unknown_block(self):
        for value in (*ODD_VALUES, "z", "x", ("a",), ["a"]):
            for ask in (lambda block: ways_to(TANGLE, block, 3), lambda block: shortest(TANGLE, block)):
                with self.assertRaises(UnknownBlock) as caught:
                    ask(value)
                self.assertTrue(caught.exception.block is value)

    def test_by_name(self):
        self.assertEqual(ways_to(source=TANGLE, most=2, block="b"), [["a", "b"]])
        self.assertEqual(shortest(block="b", source=TANGLE), ["a", "b"])

    def test_lists_are_new(self):
        first = ways_to(TANGLE, "a", 4)
        first[0].append("z")
        first[1].clear()
        first.clear()
        self.assertEqual(ways_to(TANGLE, "a", 4)[:2], [["a"], ["a", "c", "d", "a"]])


class ShortestTest(unittest.TestCase):
    def test_is_the_first_of_the_ways(self):
        for source in (ring_source(), TANGLE, source_of("a b c", "b d", "c d e", "d e", "e f g", "f g", "g h", "h")):
            for block in source.blocks():
                ways = ways_to(source, block, 8)
                self.assertEqual(shortest(source, block), ways[0] if ways else None)

    def test_first_of_several(self):
        self.assertEqual(shortest(TANGLE, "d"), ["a", "c", "d"])
        self.assertEqual(shortest(TANGLE, "f"), ["a", "c", "d", "f"])
        self.assertEqual(shortest(TANGLE, "a"), ["a"])

    def test_no_way(self):
        self.assertIsNone(shortest(TANGLE, "u"))

    def test_all_blocks_in_a_row(self):
        s = source_of("a b", "b c", "c d", "d e", "e f", "f g", "g h", "h a")
        self.assertEqual(shortest(s, "h"), list("abcdefgh"))

    def test_lists_are_new(self):
        shortest(TANGLE, "d").append("z")
        self.assertEqual(shortest(TANGLE, "d"), ["a", "c", "d"])


if __name__ == "__main__":
    unittest.main()
