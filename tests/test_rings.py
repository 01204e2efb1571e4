"""Rings of blocks over which values are moved from name to name, and from place to place: long ways."""

import random
import unittest

from tests.test_standing import turning
from valueshown.alikes import Beside
from valueshown.checker import lets, lets_returns, lets_table
from valueshown.made import Made
from valueshown.papers import paper, return_paper, table_paper
from valueshown.players import Walk
from valueshown.sources import Source
from valueshown.standing import Standing, always, unlike_way
from valueshown.tables import Table
from valueshown.telling import told_by
from valueshown.truest import is_most_truthful, lies, most_truthful
from valueshown.verdicts import all_words, least_way, verdict, wrong_return

LETTERS = "abcdefghijklmnopqrstuvwxyz"
MOST = 70


def shares(rows, many):
    """Rows, shared out among so many blocks, one behind the other."""
    each = -(-len(rows) // many)
    return [tuple(rows[at * each:(at + 1) * each]) for at in range(many)]


def chain_source(many, blocks):
    """A source that sets the last of so many names, and moves each name to the one ahead around a ring of blocks."""
    names = [f"x{letter}" for letter in LETTERS[:many]]
    rows = [("copy", one, other) for one, other in zip(names, names[1:])]
    ring = LETTERS[1:1 + blocks]
    parts = [("a", (("copy", names[-1], "i"),), ("go", "b"))]
    for at, part in enumerate(shares(rows, blocks)):
        parts.append((ring[at], part, ("go", (ring + "b")[at + 1])))
    return Source(parts, ["i"])


def chain_made(source, many, rng=None):
    """A made code that moves its places likewise, but for some rows, which are left out or others."""
    place = {name: "p" + name for name in source.names()}
    blocks, labels = {}, {}
    for block in source.blocks():
        rows, told = [], []
        for label, row in enumerate(source.rows(block)):
            new = ("copy", place[row[1]], place[row[2]])
            if rng and rng.random() < 0.06:
                new = ("copy", place[row[1]], place[rng.choice(source.names())])
            if not rng or rng.random() > 0.06:
                rows.append(new)
                told.append(label)
        blocks[block], labels[block] = tuple(rows), tuple(told) + (len(source.rows(block)),)
    return Made(source, blocks, labels, {"i": place["i"]}, entries=("e",))


def only_way(source, block, times):
    """The way that comes to a block of the ring for the so manieth time: there is no other one."""
    way = source.blocks()[:1]
    while way.count(block) < times:
        way.append(source.nexts(way[-1])[0])
    return way


def plain_ways(made, stop, most):
    """The walks to a block, shortest way ahead."""
    times = 1 if stop[0] == made.source.blocks()[0] else 1 + (most - 2) // (len(made.source) - 1)
    return [Walk(made, only_way(made.source, stop[0], many + 1)) for many in range(times)]


class ChainsTest(unittest.TestCase):
    def check_table(self, table, most):
        """Words, least ways and papers, held against a plain walk."""
        made = table.made
        for stop, name, word in all_words(table):
            entry = table.entry(stop, name)
            label = made.label(stop)
            walks = plain_ways(made, stop, most)
            unlike = [w.way for w in walks if w.shown(stop, entry) != w.named(label)[name]]
            belated = all(w.shown(stop, entry) == w.late(label)[name] for w in walks)
            self.assertEqual(word, "true" if not unlike else "late" if belated else "untrue")
            self.assertEqual(least_way(table, stop, name), list(unlike[0]) if unlike else None)
            told = paper(table, stop, name)
            self.assertEqual(told[0], "unlike" if word == "untrue" else word)
            self.assertTrue(lets(table, stop, name, told))
            if told[0] == "unlike":
                self.longest = max(self.longest, len(told[1]))

    def test_chains_in_step(self):
        for many in (2, 3, 7, 11, 15):
            for blocks in (1, 2, 3):
                if many - 1 > 6 * blocks:
                    continue
                made = chain_made(chain_source(many, blocks), many)
                rows = [(stop, name, "p" + name) for stop in made.all_stops() for name in made.source.names()]
                table = Table(made, rows)
                self.assertEqual({word for _, _, word in all_words(table)}, {"true"})
                self.assertTrue(lets_table(table, table_paper(table)))
                self.assertEqual(lies(table), [])
                self.assertTrue(is_most_truthful(table))
                self.assertTrue(all(entry <= "p" + name for _, name, entry in most_truthful(made)))

    def test_each_name_has_nothing_until_its_value_comes(self):
        self.longest = 0
        for many, blocks in ((5, 1), (7, 1), (9, 2), (13, 2), (15, 3)):
            made = chain_made(chain_source(many, blocks), many)
            rows = [(stop, name, "p" + names) for stop in made.all_stops()[::7] for name, names in
                    [("xa", "xb"), ("xb", "xa"), ("i", "xa"), ("xc", "xc")]]
            table = Table(made, rows)
            self.check_table(table, blocks * many + 3 * blocks)
            # What was set in the beginning comes to the first name at last.
            last = (made.source.blocks()[-1], len(made.rows(made.source.blocks()[-1])))
            standing = Standing(made)
            way = unlike_way(standing, last, ("name", "xa"), ("late", "xa"))
            self.assertEqual(way, only_way(made.source, last[0], many - 1))
            self.assertEqual(unlike_way(standing, last, ("name", "xa"), ("place", "pxa")), None)
            self.assertTrue(always(standing, last, ("name", "xa"), ("place", "pxa")))
        self.assertTrue(self.longest > 30, self.longest)

    def test_chains_out_of_step(self):
        rng = random.Random(101)
        self.longest = 0
        for _ in range(12):
            many, blocks = rng.randint(3, 12), rng.randint(1, 3)
            if many - 1 > 6 * blocks:
                continue
            made = chain_made(chain_source(many, blocks), many, rng)
            stops = made.all_stops()
            rows = {}
            for _ in range(12):
                name = rng.choice(made.source.names())
                rows[(rng.choice(stops), name)] = "p" + rng.choice([name, name, rng.choice(made.source.names())])
            table = Table(made, [(*key, entry) for key, entry in rows.items() if entry in made.places()])
            self.check_table(table, MOST)
        self.assertTrue(self.longest > 10, self.longest)

    def test_partings(self):
        rng = random.Random(102)
        longest = 0
        for _ in range(12):
            many, blocks = rng.randint(3, 13), rng.randint(1, 3)
            if many - 1 > 6 * blocks:
                continue
            source = chain_source(many, blocks)
            one, other = chain_made(source, many), chain_made(source, many, rng)
            name = rng.choice(source.names())
            if "p" + name not in other.places():
                continue
            tables = [
                Table(made, [(made.stops(block)[-1], name, "p" + name) for block in source.blocks()[1:]])
                for made in (one, other)
            ]
            found = Beside(*tables).parting()
            unlike = []
            for block in source.blocks()[1:]:
                here, there = one.stops(block)[-1], other.stops(block)[-1]
                for left, right in zip(plain_ways(one, here, MOST), plain_ways(other, there, MOST)):
                    if left.shown(here, "p" + name) != right.shown(there, "p" + name):
                        unlike.append((len(left.way), block, list(left.way)))
            if not unlike:
                self.assertEqual(found, None)
                continue
            least, block, way = min(unlike)
            self.assertEqual(found, (block, len(source.rows(block)), name, way))
            self.assertTrue(Beside(*tables).parts(*found))
            longest = max(longest, least)
        self.assertTrue(longest > 8, longest)

    def test_returns(self):
        for many in (4, 7):
            source = chain_source(many, 1)
            parts = [(block, *source[block]) for block in source.blocks()]
            parts[1] = (parts[1][0], parts[1][1], ("either", "b", "z"))
            source = Source(parts + [("z", (), ("return", "xa"))], ["i"])
            names = source.names()
            codes = {
                "a": (("copy", "p" + names[-1], "pi"),),
                "b": tuple(("copy", "p" + row[1], "p" + row[2]) for row in source.rows("b")),
                "z": (("return", "pxb"),),
            }
            labels = {"a": (0, 1), "b": tuple(range(many)), "z": (0,)}
            made = Made(source, codes, labels, {"i": "pi"})
            # Only from then on, when the value has come to the second name, but not to the first one.
            self.assertEqual(wrong_return(made), ["a"] + ["b"] * (many - 2) + ["z"])
            self.assertTrue(lets_returns(made, return_paper(made)))
            right = made.with_rows("z", (("return", "pxa"),), (0,))
            self.assertEqual(wrong_return(right), None)
            self.assertTrue(lets_returns(right, return_paper(right)))


class TurningTest(unittest.TestCase):
    def test_what_stands_on_long_rings(self):
        for many, blocks in ((5, 1), (9, 2), (13, 3), (20, 7)):
            made = turning(many, blocks)
            source = made.source
            standing = Standing(made)
            for block in source.blocks()[1:]:
                first = source.blocks().index(block) + 1
                for times in (1, 2, many - 2, many - 1, many, many + 1):
                    shape = standing.up_to(block, first + blocks * (times - 1))
                    walks = [Walk(made, only_way(source, block, time + 1)) for time in range(times)]
                    places = made.places()
                    for one, other in zip(places, places[1:]):
                        equal = all(walk.held(0)[one] == walk.held(0)[other] for walk in walks)
                        self.assertEqual(shape.holds(("place", one), ("place", other)), equal)
                self.assertEqual(standing[block], standing.up_to(block, blocks * (many + 2)))
            self.assertTrue(blocks * (many - 1) < len(standing) <= blocks * (many + 2))

    def test_words_on_long_rings(self):
        many = 12
        made = turning(many)
        source = Source([("a", (), ("go", "b")), ("b", (("copy", "y", "x"),), ("go", "b"))])
        labels = {"a": (0, 0), "b": (0,) * len(made.rows("b")) + (1,)}
        made = Made(source, {block: made.rows(block) for block in "ab"}, labels, {})
        table = Table(made, [(("b", 0), "x", f"p{letter}") for letter in LETTERS[:1]])
        for at, letter in enumerate(LETTERS[:many]):
            table = table.with_entry(("b", 0), "x", f"p{letter}")
            self.assertEqual(verdict(table, ("b", 0), "x"), "untrue")
            # Nothing is shown until the one value comes to the place.
            self.assertEqual(least_way(table, ("b", 0), "x"), ["a"] + ["b"] * (many - at))
            self.assertTrue(lets(table, ("b", 0), "x", paper(table, ("b", 0), "x")))
        self.assertEqual(told_by(made, ("b", 0), "x"), [])
        self.assertEqual(told_by(made, ("a", 1), "x"), [f"p{letter}" for letter in LETTERS[:many - 1]] + ["t"])


if __name__ == "__main__":
    unittest.main()
