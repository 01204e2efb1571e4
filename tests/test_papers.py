"""Papers, and the checker that judges them."""

import random
import unittest

from tests.brute import random_made, random_table, some_made, some_tables
from tests.test_standing import lattice
from tests.values import ODD_VALUES, LikeAll, Unprintable, doc_made, ring_made, unreached_made
from valueshown.checker import lets, lets_returns, lets_table
from valueshown.errors import BadStop, TooMany, UnknownName
from valueshown.made import Made
from valueshown.papers import paper, return_paper, table_paper
from valueshown.players import Walk
from valueshown.shapes import Shape, marks_of
from valueshown.sources import Source
from valueshown.standing import Standing
from valueshown.tables import Table
from valueshown.verdicts import is_truthful, verdict, wrong_return
from valueshown.ways import ways_to

A0, A1, B0 = ("a", 0), ("a", 1), ("b", 0)
OPEN, NOTHING = ("open",), ("nothing",)


def loop_made():
    """A ring of one block and a return; s keeps what p had at first, and r has what x had."""
    source = Source([
        ("a", (("set", "x", "f", ("x",)), ("copy", "y", "x")), ("either", "a", "b")), ("b", (), ("return", "x")),
    ], ["x"])
    blocks = {"a": (("copy", "r", "p"), ("set", "p", "f", ("p",))), "b": (("return", "p"),)}
    return Made(source, blocks, {"a": (0, 0, 2), "b": (0,)}, {"x": "p"}, entries=("s",))


def loop_table():
    return Table(loop_made(), [
        (("a", 2), "x", "p"), (B0, "x", "p"), (("a", 2), "y", "r"), (B0, "y", "r"), (A1, "x", "r"),
    ])


def rows_of(made):
    standing = Standing(made)
    return [(block, standing[block].value()) for block in made.source.reached()]


def weakest(made):
    """The value of the shape by which nothing is known."""
    marks = marks_of(made)
    return (tuple([OPEN] * len(marks)), tuple((mark, at) for at, mark in enumerate(marks)))


class PaperTest(unittest.TestCase):
    def test_some_papers(self):
        table = Table(doc_made(), [(A1, "x", "p"), (A1, "y", "q")])
        rows = [("a", Shape.opening(doc_made()).value())]
        self.assertEqual(paper(table, A1, "x"), ("true", rows))
        self.assertEqual(paper(table, A1, "y"), ("unlike", ["a"]))
        self.assertEqual(paper(table=table, stop=A0, name="y"), None)
        self.assertEqual(table_paper(table=table), None)
        self.assertEqual(table_paper(table.without(A1, "y")), ("truthful", rows))
        self.assertEqual(return_paper(made=doc_made()), ("returns", rows))
        late = Table(loop_made(), [(("a", 2), "x", "r")])
        self.assertEqual(paper(late, ("a", 2), "x"), ("late", rows_of(loop_made())))

    def test_empty_tables_have_papers(self):
        for made in (doc_made(), ring_made(), unreached_made(), Made.plain(Source([("a", (), ("go", "a"))]))):
            self.assertEqual(table_paper(Table(made)), ("truthful", rows_of(made)))
            self.assertTrue(lets_table(Table(made), table_paper(Table(made))) is True)

    def test_where_no_way_leads(self):
        table = Table(unreached_made(), [(B0, "y", "p"), (("d", 0), "y", "p")])
        for stop in (B0, ("d", 0)):
            self.assertEqual(paper(table, stop, "y"), ("true", rows_of(unreached_made())))
            for word in ("true", "late"):
                self.assertTrue(lets(table, stop, "y", (word, rows_of(unreached_made()))))
            self.assertFalse(lets(table, stop, "y", ("true", [])))
            self.assertFalse(lets(table, stop, "y", ("unlike", ["a", "b"])))
            self.assertFalse(lets(table, stop, "y", ("unlike", ["a"])))
        self.assertTrue(lets_table(table, table_paper(table)))

    def test_each_question_has_a_paper(self):
        words = {}
        for table in some_tables(41, 60):
            for stop, name, _ in table:
                word = verdict(table, stop, name)
                written = paper(table, stop, name)
                self.assertEqual(written[0], "unlike" if word == "untrue" else word)
                words[written[0]] = words.get(written[0], 0) + 1
                self.assertTrue(lets(table, stop, name, written) is True)
                self.assertFalse(lets_table(table, written))
            written = table_paper(table)
            self.assertEqual(written is not None, is_truthful(table))
            if written is not None:
                self.assertTrue(lets_table(table, written) is True)
        self.assertTrue(len(words) == 3 and min(words.values()) > 5, words)

    def test_each_made_code_has_a_return_paper(self):
        words = {}
        for made in some_made(42, 100):
            written = return_paper(made)
            self.assertTrue(lets_returns(made, written) is True)
            words[written[0]] = words.get(written[0], 0) + 1
            if written[0] == "unlike":
                self.assertEqual(len(written[1]), len(wrong_return(made)))
        self.assertTrue(len(words) == 2 and min(words.values()) > 5, words)

    def test_papers_are_new(self):
        table = loop_table()
        paper(table, B0, "x")[1].clear()
        self.assertEqual(paper(table, B0, "x")[1], rows_of(loop_made()))

    def test_errors(self):
        table = loop_table()
        for value in ODD_VALUES + (("a", 3), ("c", 0), ["a", 0]):
            for call in (paper, lambda *args: lets(*args, None), lambda *args: lets(*args, ("true", []))):
                with self.assertRaises(BadStop) as caught:
                    call(table, value, "none")
                self.assertTrue(caught.exception.stop is value)
        for value in ODD_VALUES + ("p", "none"):
            for call in (paper, lambda *args: lets(*args, None), lambda *args: lets(*args, ("true", []))):
                with self.assertRaises(UnknownName) as caught:
                    call(table, A0, value)
                self.assertTrue(caught.exception.name is value)

    def test_too_many_nodes(self):
        made = lattice(16)
        table = Table(made, [])
        for call in (lambda: table_paper(table), lambda: return_paper(made)):
            with self.assertRaises(TooMany):
                call()


class CheckerTest(unittest.TestCase):
    """Papers that are let, and such as are not, by each of the three checks."""

    def setUp(self):
        self.table = loop_table()
        self.truthful = self.table.without(("a", 2), "y").without(B0, "y")
        self.rows = rows_of(loop_made())

    def lets_all(self, rows):
        """Whether rows are let by each check: all three say the same of them."""
        made = loop_made()
        told = [
            lets(self.table, B0, "x", ("true", rows)),
            lets_table(self.truthful, ("truthful", rows)),
            lets_returns(made, ("returns", rows)),
        ]
        self.assertEqual(len(set(told)), 1)
        self.assertEqual(type(told[0]), bool)
        return told[0]

    def test_right_rows(self):
        self.assertTrue(self.lets_all(self.rows))
        self.assertTrue(self.lets_all(self.rows[::-1]))
        self.assertTrue(lets(table=self.table, stop=B0, name="x", value=("true", self.rows)))
        self.assertTrue(lets_table(table=self.truthful, value=("truthful", self.rows)))
        self.assertTrue(lets_returns(made=loop_made(), value=("returns", self.rows)))

    def test_rows_in_other_forms(self):
        rows = self.rows
        (a, value), second = rows
        nodes, stands = value
        forms = [
            tuple(rows), [list(row) for row in rows], rows[:1], rows[1:], rows + rows[:1], [rows[0], rows[0]],
            rows + [None], [(a, value, None), second], [(a,), second], [("b", value), ("a", second[1])],
            [("c", value), second], [([a], value), second], [(LikeAll(), value), second], [(None, value), second],
            [(a, None), second], [(a, list(value)), second], [(a, (list(nodes), stands)), second],
            [(a, (nodes, list(stands))), second], [(a, (nodes, stands, ())), second], [(a, LikeAll()), second],
            [(a, (nodes, stands[1:])), second], [(a, (nodes, stands[::-1])), second],
            {}, None, True, 1, "rows", set(), rows[0],
            {"a": value, "b": second[1]}, [row for row in rows if False], (),
        ]
        # Right shapes for marks more, and for marks less.
        for more in (stands + ((("place", "z"), 0),), tuple(stand for stand in stands if stand[0] != ("place", "p"))):
            self.assertEqual(Shape((nodes, more)).value(), (nodes, more))
            forms.append([(a, (nodes, more)), second])
        ones = [index for index, (_, at) in enumerate(stands) if at == 1]
        self.assertTrue(ones)
        as_true = tuple((mark, True if index == ones[0] else at) for index, (mark, at) in enumerate(stands))
        self.assertEqual(as_true, stands)
        forms.append([(a, (nodes, as_true)), second])
        for form in forms:
            self.assertFalse(self.lets_all(form), form)

    def test_weaker_and_stronger_shapes(self):
        made = loop_made()
        opening = Shape.opening(made).value()
        self.assertTrue(self.lets_all(self.rows))
        self.assertFalse(self.lets_all([("a", opening), self.rows[1]]))
        self.assertFalse(self.lets_all([("a", weakest(made)), ("b", weakest(made))]))
        self.assertFalse(self.lets_all([("a", weakest(made)), self.rows[1]]))
        self.assertFalse(self.lets_all([self.rows[0], ("b", weakest(made))]))
        # Only that x lies in p is known: it is enough.
        nodes, stands = weakest(made)
        spots = dict(stands)
        weak = {mark: spots[("name", "x")] if mark == ("place", "p") else at for mark, at in spots.items()}
        value = arranged(nodes, weak)
        self.assertTrue(self.lets_all([("a", value), ("b", value)]))
        self.assertTrue(self.lets_all([self.rows[0], ("b", value)]))

    def test_words(self):
        for word in ("truthful", "returns", "gone", "untrue", "unlike", "", None, True, LikeAll(), ("true",)):
            self.assertFalse(lets(self.table, B0, "x", (word, self.rows)))
        for word in ("true", "late", "returns", "unlike", None, LikeAll()):
            self.assertFalse(lets_table(self.truthful, (word, self.rows)))
        for word in ("true", "late", "truthful", "unlike", None, LikeAll()):
            self.assertFalse(lets_returns(loop_made(), (word, self.rows)))

    def test_values_that_are_no_papers(self):
        for value in ODD_VALUES + (
            ["true", self.rows], ("true",), ("true", self.rows, None), ("true", None), ("true", LikeAll()),
            ("truthful", None), ("returns", None), ["returns", self.rows], ["truthful", self.rows], ["unlike", ["a"]],
            ("unlike", None), ("unlike", Unprintable()), ("unlike", [Unprintable()]), ("true", [Unprintable()]),
            ("true", [("a", Unprintable()), ("b", Unprintable())]), "true", ("unlike", "a"),
        ):
            for told in (
                lets(self.table, B0, "x", value), lets_table(self.truthful, value), lets_returns(loop_made(), value),
            ):
                self.assertTrue(told is False)

    def test_names_that_are_gone_have_no_papers(self):
        for value in (("true", self.rows), ("late", self.rows), ("unlike", ["a", "b"]), ("gone", None), None):
            self.assertTrue(lets(Table(loop_made()), B0, "x", value) is False)

    def test_true_and_late(self):
        rows = self.rows
        self.assertFalse(lets(self.table, B0, "x", ("late", rows)))
        self.assertFalse(lets(self.table, B0, "y", ("true", rows)))
        late = Table(loop_made(), [(("a", 2), "x", "r"), (A0, "x", "p"), (A0, "y", "p")])
        self.assertTrue(lets(late, ("a", 2), "x", ("late", rows)))
        self.assertFalse(lets(late, ("a", 2), "x", ("true", rows)))
        self.assertFalse(lets_table(late, ("truthful", rows)))
        made = Made.plain(Source([("a", (("copy", "x", "i"), ("copy", "x", "x")), ("return", "x"))], ["i"]))
        both = Table(made, [(("a", 2), "x", "x")])
        for word in ("true", "late"):
            self.assertTrue(lets(both, ("a", 2), "x", (word, rows_of(made))))
        for word in ("truthful", "returns", "gone", None, LikeAll()):
            self.assertFalse(lets(both, ("a", 2), "x", (word, rows_of(made))))

    def test_one_wrong_entry_is_enough(self):
        self.assertTrue(lets_table(self.truthful, ("truthful", self.rows)))
        self.assertFalse(lets_table(self.table, ("truthful", self.rows)))
        self.assertFalse(lets_table(self.truthful.with_entry(A0, "y", "s"), ("truthful", self.rows)))

    def test_ways(self):
        table = self.table
        for way in (["a", "b"], ["a", "a", "b"], ["a"] * 3000 + ["b"]):
            self.assertTrue(lets(table, B0, "y", ("unlike", way)) is True)
            self.assertTrue(lets(table, B0, "x", ("unlike", way)) is False)
        for way in (
            ["a"], ["a", "a"], ("a", "b"), [], ["b"], ["a", "b", "b"], ["a", "c"], [["a"], "b"], ["a", None],
            {"a": 1, "b": 2}, "ab", None, ["a", LikeAll()], [("a",), "b"],
        ):
            self.assertTrue(lets(table, B0, "y", ("unlike", way)) is False)
        self.assertTrue(lets(table, ("a", 2), "y", ("unlike", ["a"])) is True)

    def test_ways_of_returns(self):
        made = loop_made().with_rows("b", (("return", "r"),), (0,))
        for way in (["a", "b"], ["a", "a", "b"], ["a"] * 2000 + ["b"]):
            self.assertTrue(lets_returns(made, ("unlike", way)) is True)
            self.assertFalse(lets_returns(loop_made(), ("unlike", way)))
        for way in (["a"], ["a", "a"], ("a", "b"), [], ["b"], ["a", "b", "b"], None, "ab"):
            self.assertTrue(lets_returns(made, ("unlike", way)) is False)
        self.assertFalse(lets_returns(made, ("returns", rows_of(made))))

    def test_returns_of_blocks_to_which_no_way_leads(self):
        self.assertTrue(lets_returns(unreached_made(), ("returns", rows_of(unreached_made()))))
        self.assertFalse(lets_returns(unreached_made(), ("unlike", ["d"])))

    def test_only_what_is_so_is_let(self):
        rng = random.Random(43)
        told = {True: 0, False: 0}
        for _ in range(60):
            made = random_made(rng)
            table = random_table(rng, made)
            rows = rows_of(made)
            others = [rows_of(made), exchanged(rng, rows), strengthened(rng, made, rows)]
            for stop, name, _ in table:
                word = verdict(table, stop, name)
                for some in others:
                    is_let = lets(table, stop, name, ("true", some))
                    told[is_let] += 1
                    self.assertFalse(is_let and word != "true")
                    self.assertFalse(lets(table, stop, name, ("late", some)) and word == "untrue")
            if not is_truthful(table):
                self.assertFalse(any(lets_table(table, ("truthful", some)) for some in others))
            for block in made.source.reached():
                for way in ways_to(made.source, block, 3):
                    returned = Walk(made, way).returned()
                    unlike = returned is not None and returned[0] != returned[1]
                    self.assertEqual(lets_returns(made, ("unlike", way)), unlike)
                    for stop, name, entry in table:
                        is_unlike = stop[0] == block and not same(made, way, stop, name, entry)
                        self.assertEqual(lets(table, stop, name, ("unlike", way)), is_unlike)
        self.assertTrue(min(told.values()) > 50, told)

    def test_shapes_that_lead_to_too_many_nodes(self):
        source = Source([("a", (), ("either", "a", "b")), ("b", (), ("return", "i"))], ["i"])
        made = Made(source, {"a": (), "b": (("set", "q", "f", ("q",)), ("return", "p"))},
                    {"a": (0,), "b": (0, 0)}, {"i": "p"})
        opening = Shape.opening(made).value()
        self.assertTrue(lets_returns(made, ("returns", [("a", opening), ("b", opening)])))
        long = [NOTHING, OPEN] + [("op", "f", (index,)) for index in range(1, 19999)]
        deep = (tuple(long), tuple((mark, 19999 if mark == ("place", "q") else at) for mark, at in opening[1]))
        self.assertEqual(len(Shape(deep)), 20000)
        # It leads to more nodes than there may be, in whichever order it is seen.
        for rows in ([("a", opening), ("b", deep)], [("b", deep), ("a", opening)]):
            self.assertTrue(lets_returns(made, ("returns", rows)) is False)
            self.assertTrue(lets_table(Table(made), ("truthful", rows)) is False)
            self.assertTrue(lets(Table(made, [(B0, "i", "p")]), B0, "i", ("true", rows)) is False)

    def test_arguments_stay(self):
        rows = rows_of(loop_made())
        value = ("true", rows)
        lets(self.table, B0, "x", value)
        way = ["a", "b"]
        lets(self.table, B0, "y", ("unlike", way))
        self.assertEqual((rows, way), (rows_of(loop_made()), ["a", "b"]))


def arranged(nodes, spots):
    """The value of a shape, its nodes in the order in which they are first met; they are all open."""
    numbers = {}
    for mark in sorted(spots):
        numbers.setdefault(spots[mark], len(numbers))
    parts = tuple(nodes[at] for at in numbers)
    return (parts, tuple((mark, numbers[spots[mark]]) for mark in sorted(spots)))


def same(made, way, stop, name, entry):
    walk = Walk(made, way)
    return walk.shown(stop, entry) == walk.named(made.label(stop))[name]


def exchanged(rng, rows):
    """Rows with the shape of one block for another one."""
    values = [value for _, value in rows]
    rng.shuffle(values)
    return [(block, value) for (block, _), value in zip(rows, values)]


def strengthened(rng, made, rows):
    """Rows of which one says more than is so: as if there were one way alone."""
    standing = Standing(made)
    at = rng.randrange(len(rows))
    block = rows[at][0]
    way = ways_to(made.source, block, 8)[0]
    return rows[:at] + [(block, standing.up_to(block, len(way)).value())] + rows[at + 1:]


if __name__ == "__main__":
    unittest.main()
