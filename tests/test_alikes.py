"""Made codes that are alike to everybody who steps."""

import random
import unittest

from tests.brute import random_made, random_source, random_table, renamed, words_of
from tests.test_standing import lattice, turning
from tests.values import ODD_VALUES, LikeAll, Unprintable, doc_made, ring_made, unreached_made
from valueshown.alikes import Beside, alike_groups
from valueshown.errors import BadTable, TooMany
from valueshown.made import Made
from valueshown.players import Walk
from valueshown.sources import Source
from valueshown.tables import Table
from valueshown.telling import tellings
from valueshown.truest import most_truthful
from valueshown.ways import shortest, ways_to

A0, A1, B0, C0 = ("a", 0), ("a", 1), ("b", 0), ("c", 0)
MOST = 5


def sided(term, side):
    """A term whose entries and lost values are those of a side."""
    if term is None or term[0] == "input":
        return term
    if term[0] == "op":
        return ("op", term[1], tuple(sided(part, side) for part in term[2]))
    return (*term, side)


def first_stops(made, block):
    found = {}
    for index, label in enumerate(made.labels(block)):
        found.setdefault(label, (block, index))
    return found


def plain_pairs(one, other):
    source = one.made.source
    found = []
    for block in source.blocks():
        if block in source.reached():
            here, there = first_stops(one.made, block), first_stops(other.made, block)
            found += [(block, label, here[label], there[label]) for label in sorted(here) if label in there]
    return found


def part_on(one, other, pair, name, way):
    """Whether two tables part on a way, at a pair of stops and a name, by walking."""
    _, _, stop, beside = pair
    shown, others = one.entry(stop, name), other.entry(beside, name)
    if shown is None or others is None:
        return shown is not others
    here = sided(Walk(one.made, way).shown(stop, shown), "one")
    return here != sided(Walk(other.made, way).shown(beside, others), "other")


def plain_partings(one, other, most):
    """All (block, label, name, way) at which two tables part on ways of at most so many blocks."""
    found = []
    for pair in plain_pairs(one, other):
        for way in ways_to(one.made.source, pair[0], most):
            for name in one.made.source.names():
                if part_on(one, other, pair, name, way):
                    found.append((pair[0], pair[1], name, way))
    return found


def random_pair(rng, most_blocks=4):
    """Two tables of made codes of one source; some of them much alike."""
    source = random_source(rng, most_blocks)
    one = random_made(rng, source)
    kind = rng.random()
    if kind < 0.5 and one.places() and source.names():
        # One entry alone, the same one way at least, so that it may take long until they part.
        block = source.reached()[-1]
        stop, walk = rng.choice(one.stops(block)), Walk(one, shortest(source, block))
        entry = rng.choice(tellings(one))
        same = [other for other in tellings(one) if walk.shown(stop, other) == walk.shown(stop, entry)]
        return [Table(one, [(stop, source.names()[0], some)]) for some in (entry, rng.choice(same))]
    if kind < 0.7:
        words = {word: word for word in words_of(one)}
        places = [place for place in one.places() if place not in source.names()]
        words.update({place: "z" + place for place in places})
        other = renamed(one, words) if not set(one.places()) & set(source.names()) else one
        first, second = most_truthful(one), most_truthful(other)
        if rng.random() < 0.5 and len(second):
            stop, name, _ = rng.choice(second.rows())
            second = second.with_entry(stop, name, rng.choice(other.places()))
        return first, second
    other = random_made(rng, source)
    if kind < 0.9:
        return most_truthful(one), most_truthful(other)
    return random_table(rng, one), random_table(rng, other)


def source_of_two():
    return Source([("a", (("set", "x", "f", ("i",)),), ("either", "a", "b")), ("b", (), ("return", "x"))], ["i"])


def plain():
    return Made.plain(source_of_two())


def other_made():
    """A made code with other places, and with other stops for the labels."""
    rows = {"a": (("copy", "s", "p"), ("set", "q", "f", ("p",)), ("copy", "r", "q")), "b": (("return", "r"),)}
    return Made(source_of_two(), rows, {"a": (1, 0, 1, 1), "b": (0,)}, {"i": "p"}, entries=("e",))


class BesideTest(unittest.TestCase):
    def test_pairs(self):
        beside = Beside(Table(plain()), Table(other_made()))
        self.assertEqual(beside.pairs(), [
            ("a", 0, ("a", 0), ("a", 1)), ("a", 1, ("a", 1), ("a", 0)), ("b", 0, B0, B0),
        ])
        beside.pairs().clear()
        self.assertEqual(len(beside.pairs()), 3)
        less = other_made().with_rows("a", (), (1,))
        self.assertEqual(Beside(one=Table(plain()), other=Table(less)).pairs(), [
            ("a", 1, ("a", 1), ("a", 0)), ("b", 0, B0, B0),
        ])
        table = Table(unreached_made())
        self.assertEqual([pair[0] for pair in Beside(table, table).pairs()], ["a", "c"])

    def test_alike(self):
        one = Table(plain(), [(A0, "i", "i"), (A1, "x", ("f", "i")), (B0, "x", "x"), (B0, "i", "i")])
        other = Table(other_made(), [(("a", 1), "i", "p"), (A0, "x", ("f", "p")), (B0, "x", "r"), (B0, "i", "s")])
        self.assertEqual(Beside(one, other).parting(), None)
        self.assertTrue(Beside(one, other).is_alike() is True)
        self.assertTrue(Beside(other, one).is_alike())
        # What the other stops show does not matter.
        more = other.with_entry(("a", 2), "x", "p").with_entry(("a", 3), "i", "e")
        self.assertTrue(Beside(one, more).is_alike())

    def test_parting(self):
        one = Table(plain(), [(A0, "x", "i"), (B0, "x", "x"), (B0, "i", "i")])
        other = Table(other_made(), [(("a", 1), "x", "p"), (B0, "x", "r"), (B0, "i", "q")])
        beside = Beside(one, other)
        self.assertEqual(beside.parting(), ("b", 0, "i", ["a", "b"]))
        self.assertTrue(beside.is_alike() is False)
        self.assertTrue(beside.parts("b", 0, "i", ["a", "b"]) is True)
        self.assertTrue(beside.parts(block="b", label=0, name="i", way=("a", "a", "b")) is True)
        self.assertTrue(beside.parts("b", 0, "x", ["a", "b"]) is False)
        # Shown in one of them alone: it parts on each way, the shorter one ahead.
        self.assertEqual(Beside(one.without(B0, "x"), other).parting(), ("b", 0, "i", ["a", "b"]))
        self.assertEqual(Beside(one, other.without(B0, "i")).parting(), ("b", 0, "i", ["a", "b"]))
        alone = Beside(one.without(A0, "x"), other)
        self.assertEqual(alone.parting(), ("a", 0, "x", ["a"]))
        for way in (["a"], ["a", "a"], ["a"] * 9):
            self.assertTrue(alone.parts("a", 0, "x", way))
        self.assertFalse(alone.parts("a", 0, "i", ["a"]))

    def test_inputs_that_lie_elsewhere(self):
        one = Table(plain(), [(A0, "i", "i")])
        other = Table(other_made(), [(("a", 1), "i", "s")])
        # Behind the copy to s, s is i; nothing else has changed p so far.
        self.assertTrue(Beside(one, other).is_alike())
        self.assertEqual(Beside(one, other.with_entry(("a", 1), "i", "e")).parting(), ("a", 0, "i", ["a"]))

    def test_entries_and_lost_values_are_unlike_one_another(self):
        source = Source([("a", (), ("go", "b")), ("b", (), ("go", "b"))], ["i"])
        made = Made(source, {"a": (("call", "p", "f", (), ("e",)),), "b": ()}, {"a": (0, 0), "b": (0,)}, {"i": "r"},
                    entries=("e", "q"))
        for entry in ("e", "q", "r", ("f", "e"), ("g", "p", "r")):
            table = Table(made, [(B0, "i", entry)])
            self.assertEqual(Beside(table, table).parting(), ("b", 0, "i", ["a", "b"]))
            self.assertTrue(Beside(table, table).parts("b", 0, "i", ["a", "b", "b"]))
            self.assertFalse(Beside(table, table).is_alike())
        for entry in ("p", ("f",), ("f", "p"), ("g", "p", "p")):
            table = Table(made, [(B0, "i", entry)])
            self.assertEqual(Beside(table, table).parting(), None)
        first = Table(made, [(A0, "i", "r")])
        self.assertTrue(Beside(first, first).is_alike())

    def test_inputs_and_entries_side_by_side(self):
        source = Source([("a", (), ("go", "a"))], ["i", "j", "k"])
        one = Made(source, {"a": ()}, {"a": (0,)}, {"i": "p", "j": "q", "k": "r"}, entries=("d", "e"))
        other = Made(source, {"a": ()}, {"a": (0,)}, {"i": "e", "j": "s", "k": "p"}, entries=("q", "r", "d"))
        for made, beside in ((one, other), (other, one), (one, one), (other, other)):
            for place in made.places():
                for there in beside.places():
                    tables = [Table(made, [(A0, "i", place)]), Table(beside, [(A0, "i", there)])]
                    both = [
                        [name for name in "ijk" if table.made.place_of(name) == shown]
                        for table, shown in zip(tables, (place, there))
                    ]
                    alike = both[0] == both[1] != []
                    self.assertTrue(Beside(*tables).is_alike() is alike, (place, there))
                    self.assertTrue(Beside(*tables).parts("a", 0, "i", ["a"]) is not alike)

    def test_the_fewest_blocks_then_the_first(self):
        source = Source([
            ("a", (), ("either", "b", "c")), ("b", (), ("go", "d")), ("c", (), ("go", "c")), ("d", (), ("return", "x")),
        ], ["i", "j"])
        made = Made.plain(source)
        table = Table(made, [(stop, "i", "i") for stop in made.all_stops()])
        wrong = table.with_entry(("d", 0), "i", "j").with_entry(C0, "i", "j")
        self.assertEqual(Beside(table, wrong).parting(), ("c", 0, "i", ["a", "c"]))
        wrong = wrong.with_entry(B0, "j", "j")
        self.assertEqual(Beside(table, wrong).parting(), ("b", 0, "j", ["a", "b"]))
        wrong = wrong.with_entry(A0, "x", "x")
        self.assertEqual(Beside(table, wrong).parting(), ("a", 0, "x", ["a"]))
        wrong = wrong.with_entry(A0, "i", "x")
        self.assertEqual(Beside(wrong, table).parting(), ("a", 0, "i", ["a"]))

    def test_against_plain_searches(self):
        rng = random.Random(91)
        alike = parted = long = 0
        for _ in range(400):
            one, other = random_pair(rng)
            beside = Beside(one, other)
            self.assertEqual(beside.pairs(), plain_pairs(one, other))
            partings = plain_partings(one, other, MOST)
            found = beside.parting()
            self.assertTrue(beside.is_alike() is (found is None))
            if found is None:
                alike += 1
                self.assertEqual(partings, [])
                continue
            parted += 1
            block, label, name, way = found
            self.assertEqual((type(found), type(way), way[-1]), (tuple, list, block))
            self.assertTrue(beside.parts(*found))
            long += len(way) > 2
            if len(way) <= MOST:
                least = min(len(part[3]) for part in partings)
                first = [part for part in partings if len(part[3]) == least][0]
                self.assertEqual((found[:3], len(way)), (first[:3], least))
                self.assertIn(found, partings)
            else:
                self.assertEqual(partings, [])
        self.assertTrue(min(alike, parted, long) > 5, (alike, parted, long))

    def test_parts_against_plain_searches(self):
        rng = random.Random(92)
        told = {True: 0, False: 0}
        for _ in range(60):
            one, other = random_pair(rng)
            beside = Beside(one, other)
            partings = plain_partings(one, other, 3)
            source = one.made.source
            for block in source.blocks():
                for way in ways_to(source, block, 3):
                    for label in range(len(source.rows(block)) + 1):
                        for name in source.names():
                            right = (block, label, name, way) in partings
                            told[right] += 1
                            self.assertTrue(beside.parts(block, label, name, way) is right)
        self.assertTrue(min(told.values()) > 50, told)

    def test_parts_of_any_values(self):
        one = Table(plain(), [(A0, "x", "x"), (B0, "x", "x")])
        beside = Beside(one, Table(other_made()))
        right = ("a", 0, "x", ["a"])
        self.assertTrue(beside.parts(*right))
        right_ways = [value for value in ODD_VALUES if isinstance(value, (list, tuple)) and len(value) == 1
                      and isinstance(value[0], str)]
        self.assertEqual(right_ways, [["a"], ("a",)])
        for value in ODD_VALUES + (
            "z", "ab", 2, ["b"], ["a", "b"], ["a", "c"], ["a", None], ("a", "b"), ["a", LikeAll()], [Unprintable()],
        ):
            for at in range(4):
                some = list(right)
                some[at] = value
                if at == 3 and any(value is way for way in right_ways):
                    continue
                self.assertTrue(beside.parts(*some) is False, at)
        self.assertFalse(beside.parts("b", 0, "x", ["a"]))
        self.assertFalse(beside.parts("a", 0, "x", ["a", "b"]))
        self.assertFalse(beside.parts("a", 2, "x", ["a"]))
        self.assertFalse(beside.parts("a", 0, "none", ["a"]))
        # A label that is not both made codes' own, and a block to which no way leads.
        less = Table(other_made().with_rows("a", (), (1,)))
        self.assertFalse(Beside(one, less).parts("a", 0, "x", ["a"]))
        table = Table(unreached_made(), [(B0, "x", "p")])
        self.assertFalse(Beside(table, Table(unreached_made())).parts("b", 0, "x", ["a", "b"]))

    def test_bad_tables(self):
        one = Table(plain())
        for value in ODD_VALUES + (plain(), Table(doc_made()), Table(ring_made()), [], one.rows()):
            with self.assertRaises(BadTable) as caught:
                Beside(one, value)
            self.assertTrue(caught.exception.which is value)
        with self.assertRaises(BadTable) as caught:
            Beside(None, one)
        self.assertEqual(caught.exception.which, None)

    def test_long_rings(self):
        made = turning(14)
        source = Source([("a", (), ("go", "b")), ("b", (), ("go", "b"))], ["i"])
        rows = {block: made.rows(block) for block in ("a", "b")}
        lies = {"i": "ii"}
        made = Made(source, rows, {"a": (0, 0), "b": (0,) * 16}, lies)
        ways = []
        for letter in "abcdefghijklmn":
            one, other = [Table(made, [(B0, "i", place)]) for place in (f"p{letter}", "ii")]
            self.assertEqual(Beside(one, other).parting(), ("b", 0, "i", ["a", "b"]))
            # All places but the last one are nothing at first, and so is the one that is shown beside them.
            empty = Made(source, {"a": (("copy", "n", "m"),), "b": ()}, {"a": (0, 0), "b": (0,)}, lies)
            found = Beside(one, Table(empty, [(B0, "i", "n")])).parting()
            ways.append(len(found[3]))
            self.assertEqual(found, ("b", 0, "i", ["a"] + ["b"] * (len(found[3]) - 1)))
        self.assertEqual(ways, list(range(15, 1, -1)))

    def test_too_many_nodes(self):
        table = Table(lattice(16))
        beside = Beside(table, table)
        self.assertEqual(len(beside.pairs()), 8)
        for call in (beside.parting, beside.is_alike, lambda: alike_groups([table, table])):
            with self.assertRaises(TooMany) as caught:
                call()
            self.assertEqual(caught.exception.limit, 20000)

    def test_other_words(self):
        rng = random.Random(93)
        for _ in range(40):
            one, other = random_pair(rng)
            words = sorted(set(words_of(one.made)) | set(words_of(other.made)))
            new = ["w" + letter + more for letter in "abcd" for more in "abcdefghij"][:len(words)]
            rng.shuffle(new)
            change = dict(zip(words, new))

            def changed(table):
                def entry_of(entry):
                    return tuple(change[w] for w in entry) if isinstance(entry, tuple) else change[entry]
                rows = [((change[stop[0]], stop[1]), change[name], entry_of(entry)) for stop, name, entry in table]
                return Table(renamed(table.made, change), rows)

            here, there = Beside(one, other).parting(), Beside(changed(one), changed(other)).parting()
            self.assertEqual(here and len(here[3]), there and len(there[3]))


class GroupsTest(unittest.TestCase):
    def tables(self):
        full = most_truthful(plain())
        less = full.without(B0, "x")
        other = Table(plain(), [(A0, "i", "x")])
        return [full, less, full, other, less, Table(plain()), full, other]

    def test_groups(self):
        self.assertEqual(alike_groups(self.tables()), [[0, 2, 6], [1, 4], [3, 7], [5]])
        self.assertEqual(alike_groups(tables=tuple(self.tables()[::-1])), [[0, 4], [1, 5, 7], [2], [3, 6]])
        self.assertEqual(alike_groups([]), [])
        self.assertEqual(alike_groups(self.tables()[:1]), [[0]])

    def test_the_first_table_of_a_group_counts(self):
        # A table that is alike to the first one of two groups joins the former; those within may part.
        source = source_of_two()
        one = Made(source, {"a": (), "b": (("return", "p"),)}, {"a": (1,), "b": (0,)}, {"i": "p"})
        both = Made(source, {"a": (("copy", "q", "p"),), "b": (("return", "p"),)}, {"a": (0, 1), "b": (0,)}, {"i": "p"})
        tables = [
            Table(one, [(A0, "i", "p")]),
            Table(both, [(A0, "x", "p"), (A1, "i", "p")]),
            Table(both, [(A0, "x", "q"), (A1, "i", "p")]),
        ]
        self.assertTrue(Beside(tables[0], tables[1]).is_alike() and Beside(tables[0], tables[2]).is_alike())
        self.assertFalse(Beside(tables[1], tables[2]).is_alike())
        self.assertEqual(alike_groups(tables), [[0, 1, 2]])
        self.assertEqual(alike_groups(tables[1:]), [[0], [1]])
        self.assertEqual(alike_groups([tables[1], tables[2], tables[0]]), [[0, 2], [1]])

    def test_a_table_may_not_be_alike_to_itself(self):
        made = Made(source_of_two(), {"a": (), "b": (("return", "e"),)}, {"a": (1,), "b": (0,)}, {"i": "p"},
                    entries=("e",))
        table = Table(made, [(A0, "x", "e")])
        self.assertEqual(alike_groups([table, table]), [[0], [1]])

    def test_against_pairs(self):
        rng = random.Random(94)
        for _ in range(25):
            source = random_source(rng, 3)
            tables = [most_truthful(random_made(rng, source)) for _ in range(4)]
            groups = []
            for index, table in enumerate(tables):
                for group in groups:
                    if Beside(tables[group[0]], table).is_alike():
                        group.append(index)
                        break
                else:
                    groups.append([index])
            self.assertEqual(alike_groups(tables), groups)

    def test_bad_tables(self):
        tables = self.tables()
        for value in ODD_VALUES + (plain(), Table(doc_made())):
            for at in (1, 3, len(tables)):
                with self.assertRaises(BadTable) as caught:
                    alike_groups(tables[:at] + [value] + tables[at:] + [None])
                self.assertEqual(caught.exception.which, at)
        for value in ODD_VALUES:
            with self.assertRaises(BadTable) as caught:
                alike_groups([value, *tables])
            self.assertEqual(caught.exception.which, 0)

    def test_lists_are_new(self):
        tables = self.tables()
        alike_groups(tables)[0].clear()
        self.assertEqual(tables, self.tables())
        self.assertEqual(alike_groups(tables)[0], [0, 2, 6])

    def test_shortest_ways_count_where_one_shows_nothing(self):
        made = ring_made()
        one = Table(made, [(C0, "x", "r")])
        self.assertEqual(Beside(one, Table(made)).parting(), ("c", 0, "x", shortest(made.source, "c")))


if __name__ == "__main__":
    unittest.main()
