"""The console, line by line."""

import random
import unittest

from tests.brute import some_tables
from tests.test_standing import lattice
from tests.values import ODD_VALUES, doc_made, ring_made, unreached_made
from valueshown.console import Console
from valueshown.errors import BadLine, BadShown, BadStop, NothingToUndo, TooMany, UnknownBlock, UnknownName, Untrue
from valueshown.made import Made
from valueshown.sessions import Session
from valueshown.sources import Source
from valueshown.stepping import longest_stepping
from valueshown.telling import gone, is_asked, needless, told_by
from valueshown.truest import lies

A0, A1, B0 = ("a", 0), ("a", 1), ("b", 0)


def text_of(entry):
    return entry if isinstance(entry, str) else f"{entry[0]}({','.join(entry[1:])})"


class ConsoleTest(unittest.TestCase):
    def test_example_of_the_document(self):
        console = Console(doc_made())
        self.assertEqual(
            [console.run("show a 1 x q"), console.run("lies"), console.run("told a 1 y"), console.run("stepping a x")],
            ["ok", "1", "p f(q)", "0 1"],
        )

    def test_session(self):
        made = doc_made()
        console = Console(made=made)
        self.assertEqual(type(console.session), Session)
        self.assertTrue(console.session.table().made is made)
        console.session.show(A1, "x", "q")
        self.assertEqual(console.run(line="at a 1"), "x=q")

    def test_changes(self):
        console = Console(doc_made())
        self.assertEqual(console.run("show a 1 x q"), "ok")
        self.assertEqual(console.run("show a 1 x f(q)"), "ok")
        self.assertEqual(console.run("show a 0 y h()"), "ok")
        self.assertEqual(console.run("show a 0 x g(p,q)"), "ok")
        self.assertEqual(console.session.table().rows(), [
            (A0, "x", ("g", "p", "q")), (A0, "y", ("h",)), (A1, "x", ("f", "q")),
        ])
        self.assertEqual((console.run("at a 0"), console.run("at a 1")), ("x=g(p,q), y=h()", "x=f(q)"))
        self.assertEqual(console.run("hide a 0 x"), "ok")
        self.assertEqual(console.run("at a 0"), "y=h()")
        self.assertEqual(len(console.session), 5)
        self.assertEqual([console.run("undo") for _ in range(4)], ["ok"] * 4)
        self.assertEqual((console.run("at a 0"), console.run("at a 1")), ("-", "x=q"))
        console.run("undo")
        with self.assertRaises(NothingToUndo) as caught:
            console.run("undo")
        self.assertEqual(caught.exception.name, "undo")

    def test_questions(self):
        console = Console(doc_made())
        self.assertEqual([console.run("gone"), console.run("lies")], ["6", "0"])
        console.run("show a 1 x q")
        console.run("show a 0 x p")
        self.assertEqual([console.run("gone"), console.run("lies")], ["4", "1"])
        self.assertEqual(console.run("told a 0 x"), "p")
        self.assertEqual(console.run("stepping a"), "0 1")
        self.assertEqual(console.run("stepping a y i x i"), "0 1")
        console = Console(unreached_made())
        console.run("show b 0 x q")
        self.assertEqual([console.run("gone"), console.run("lies")], ["6", "0"])
        console = Console(ring_made())
        self.assertEqual([console.run(f"told a 0 {name}") for name in "ijxy"], ["p", "-", "-", "-"])
        self.assertEqual([console.run("stepping a j"), console.run("stepping b i j")], ["-", "-"])
        self.assertEqual(console.run("stepping a"), "0 1 2")

    def test_against_the_functions(self):
        rng = random.Random(141)
        for table in some_tables(141, 40):
            made = table.made
            console = Console(made)
            for stop, name, entry in table:
                self.assertEqual(console.run(f"show {stop[0]} {stop[1]} {name} {text_of(entry)}"), "ok")
            self.assertEqual(console.session.table(), table)
            self.assertEqual(console.run("gone"), str(len(needless(table))))
            self.assertEqual(console.run("lies"), str(len(lies(table))))
            self.assertTrue(len(needless(table)) <= len(gone(table)))
            for stop in made.all_stops():
                shown = ", ".join(f"{name}={text_of(entry)}" for name, entry in table[stop].items())
                self.assertEqual(console.run(f"at {stop[0]} {stop[1]}"), shown or "-")
                for name in made.source.names():
                    if is_asked(made, stop):
                        told = " ".join(map(text_of, told_by(made, stop, name))) or "-"
                        self.assertEqual(console.run(f"told {stop[0]} {stop[1]} {name}"), told)
            for block in made.source.reached():
                names = rng.sample(made.source.names(), min(len(made.source.names()), rng.randint(0, 2)))
                found = " ".join(map(str, longest_stepping(made, block, names))) or "-"
                self.assertEqual(console.run(" ".join(["stepping", block, *names])), found)
            for stop, name, _ in table.rows()[::2]:
                self.assertEqual(console.run(f"hide {stop[0]} {stop[1]} {name}"), "ok")
            self.assertEqual(len(console.session.table()), len(table) // 2)

    def test_too_many_nodes(self):
        with self.assertRaises(TooMany) as caught:
            Console(lattice(16))
        self.assertEqual(caught.exception.limit, 20000)


class LinesTest(unittest.TestCase):
    def test_wrong_lines(self):
        console = Console(doc_made())
        console.run("show a 1 x q")
        before = (console.session.table(), len(console.session))
        bad = ODD_VALUES + (
            " ", "  ", "a", "show", "show a", "show a 1", "show a 1 x", "show a 1 x q p", "show  a 1 x q", " show a 1 x q",
            "show a 1 x q ", "show a 1 x  q", "Show a 1 x q", "show a one x q", "show a 01 x q", "show a 00 x q",
            "show a 00001 x q", "show a 10000 x q", "show a -1 x q", "show a +1 x q", "show a 1.0 x q", "show a 1_0 x q",
            "show a \u0661 x q", "show a \u00b2 x q", "show a 0x1 x q", "show a x 1 q", "show 1 a x q", "show a 1 x f(p, q)",
            "show a 1 x q\n", "show a 1 x\tq", "show\ta 1 x q", "show a 1\n x q", "show a 1 x q\u00a0", "\nshow a 1 x q",
            "hide", "hide a 1", "hide a 1 x q", "hide a x", "hide a 01 x", "hide a 1 x ", "hide a 1  x", "hide a 1 x\n",
            "undo ", " undo", "undo 1", "undo undo", "Undo", "undo\n", "undo()",
            "at", "at a", "at a 1 x", "at a 01", "at a 1 ", "at a  1", "at 1", "at a -1", "at a 12345", "at a 1\n", "at a x",
            "told", "told a", "told a 1", "told a 1 x y", "told a 01 x", "told a  1 x", "told a 1 x ", "told a 1 x\r",
            "gone ", "gone a", "Gone", "gone 1", "lies a", "lies ", "lies\n", "LIES", "stepping", "stepping ", "stepping  a",
            "stepping a ", "stepping a  x", "stepping a x ", "stepping a x\n", "Stepping a", "step a", "help", "show-a 1 x q",
            "show\u2003a 1 x q", "stepping\u00a0a", b"undo", ["undo"], ("undo",),
        )
        for value in bad:
            with self.assertRaises(BadLine) as caught:
                console.run(value)
            self.assertTrue(caught.exception.line is value)
            self.assertEqual((console.session.table(), len(console.session)), before)

    def test_errors_of_the_functions(self):
        console = Console(unreached_made())
        console.run("show a 0 x q")
        before = (console.session.table(), len(console.session))
        for line, error, name, value in (
            ("show a 1 none none", BadStop, "stop", ("a", 1)), ("show z 0 x q", BadStop, "stop", ("z", 0)),
            ("show A 9999 x q", BadStop, "stop", ("A", 9999)), ("show a 0 none none", UnknownName, "name", "none"),
            ("show a 0 X q", UnknownName, "name", "X"), ("show a 0 x none", BadShown, "what", "none"),
            ("show a 0 x x", BadShown, "what", "x"), ("show a 0 x f(", BadShown, "what", "f("),
            ("show a 0 x f)", BadShown, "what", "f)"), ("show a 0 x ()", BadShown, "what", ("",)),
            ("show a 0 x (p)", BadShown, "what", ("", "p")), ("show a 0 x f(p,)", BadShown, "what", ("f", "p", "")),
            ("show a 0 x f(,)", BadShown, "what", ("f", "", "")), ("show a 0 x f(p,q,p)", BadShown, "what", ("f", "p", "q", "p")),
            ("show a 0 x f(P)", BadShown, "what", ("f", "P")), ("show a 0 x F(p)", BadShown, "what", ("F", "p")),
            ("show a 0 x f(p))", BadShown, "what", ("f", "p)")), ("show a 0 x f(p)q)", BadShown, "what", ("f", "p)q")),
            ("show a 0 x f(g(p))", BadShown, "what", "f(g(p))"), ("show a 0 x f((p)", BadShown, "what", "f((p)"),
            ("show a 0 x f(p)q", BadShown, "what", "f(p)q"), ("show a 0 x )f(", BadShown, "what", ")f("),
            ("show a 0 x -", BadShown, "what", "-"), ("show a 0 x )(", BadShown, "what", ")("),
            ("hide a 1 none", BadStop, "stop", ("a", 1)), ("hide a 0 none", UnknownName, "name", "none"),
            ("hide a 0 y", UnknownName, "name", "y"), ("hide b 0 x", UnknownName, "name", "x"),
            ("at a 1", BadStop, "stop", ("a", 1)), ("at z 0", BadStop, "stop", ("z", 0)),
            ("told a 1 none", BadStop, "stop", ("a", 1)), ("told b 0 x", BadStop, "stop", B0),
            ("told a 0 none", UnknownName, "name", "none"), ("told a 0 p", UnknownName, "name", "p"),
            ("stepping z none", UnknownBlock, "block", "z"), ("stepping b x", UnknownBlock, "block", "b"),
            ("stepping a x none i", UnknownName, "name", "none"), ("stepping 0", UnknownBlock, "block", "0"),
        ):
            with self.assertRaises(error) as caught:
                console.run(line)
            self.assertEqual(getattr(caught.exception, name), value, line)
            self.assertEqual((console.session.table(), len(console.session)), before)
        self.assertEqual(console.run("at b 0"), "-")
        console.session.strict = True
        with self.assertRaises(Untrue) as caught:
            console.run("show a 0 x f(q)")
        self.assertEqual(caught.exception.what, ("f", "q"))
        self.assertEqual(console.run("show b 0 x f(q)"), "ok")
        self.assertEqual(console.run("show a 0 x p"), "ok")

    def test_indexes(self):
        console = Console(doc_made())
        for word in ("2", "9", "10", "100", "1000", "9999"):
            with self.assertRaises(BadStop) as caught:
                console.run(f"at a {word}")
            self.assertEqual(caught.exception.stop, ("a", int(word)))
        self.assertEqual((console.run("at a 0"), console.run("at a 1")), ("-", "-"))

    def test_words_that_begin_lines_are_names_too(self):
        words = ("show", "hide", "undo", "at", "told", "gone", "lies", "stepping")
        rows = (("set", "gone", "lies", ("undo",)), ("copy", "lies", "undo"))
        source = Source([("undo", rows, ("go", "at")), ("at", (), ("go", "undo"))], ["undo", "at"])
        console = Console(Made.plain(source))
        changes = len(console.session)
        for word in words:
            for line in (f"show undo 0 gone {word}", f"show undo 0 {word} at"):
                try:
                    self.assertEqual(console.run(line), "ok")
                    changes += 1
                except (BadShown, UnknownName):
                    self.assertFalse(word in source.names())
                self.assertEqual(len(console.session), changes)
        for word in words:
            if word in source.names():
                told = told_by(Made.plain(source), ("undo", 0), word)
                self.assertEqual(console.run(f"told undo 0 {word}"), " ".join(map(text_of, told)))
                self.assertEqual(console.run(f"stepping at {word}"), "0")
        self.assertEqual(console.run("told undo 2 gone"), "gone lies(lies) lies(undo)")
        self.assertEqual(console.run("stepping undo undo"), "0 1 2")
        self.assertEqual(console.run("told undo 0 undo"), "undo")
        self.assertEqual(console.run("told undo 2 lies"), "lies undo")

    def test_in_trials(self):
        console = Console(doc_made())
        with console.session.trial():
            console.run("show a 1 x q")
            self.assertEqual(console.run("lies"), "1")
        self.assertEqual((console.run("lies"), len(console.session)), ("0", 0))


if __name__ == "__main__":
    unittest.main()
