"""Sessions: changes, what is taken back, and trials."""

import itertools
import random
import unittest

from tests.brute import some_made
from tests.test_standing import lattice
from tests.values import ODD_VALUES, LikeAll, doc_made, ring_made, unreached_made
from valueshown.errors import BadShown, BadStop, BadTruth, NothingToUndo, TooMany, UnknownName, Untrue
from valueshown.sessions import Session
from valueshown.tables import Table
from valueshown.telling import is_asked, tellings, told_by

A0, A1, B0, C0 = ("a", 0), ("a", 1), ("b", 0), ("c", 0)


class Stopped(Exception):
    """Raised in trials."""


def seen(session):
    """All that can be seen of a session, its changes by taking them back in a trial."""
    tables = []
    with session.trial():
        while len(session):
            session.undo()
            tables.append(session.table())
    return (session.table(), tables, len(session), session.strict)


class ChangesTest(unittest.TestCase):
    def test_at_first(self):
        made = doc_made()
        session = Session(made)
        self.assertEqual((session.table(), len(session)), (Table(made), 0))
        self.assertTrue(session.table().made is made)
        self.assertTrue(session.strict is False)
        self.assertEqual(len(Session(made=made)), 0)

    def test_show_and_hide(self):
        session = Session(doc_made())
        self.assertEqual(session.show(A1, "x", "q"), None)
        self.assertEqual(session.table(), Table(doc_made(), [(A1, "x", "q")]))
        session.show(stop=A1, name="x", entry=("f", "q"))
        self.assertEqual((session.table().rows(), len(session)), ([(A1, "x", ("f", "q"))], 2))
        session.show(A1, "x", ("f", "q"))
        self.assertEqual((session.table().rows(), len(session)), ([(A1, "x", ("f", "q"))], 3))
        session.show(A0, "i", "p")
        self.assertEqual(session.hide(A1, "x"), None)
        self.assertEqual((session.table().rows(), len(session)), ([(A0, "i", "p")], 5))
        session.hide(stop=A0, name="i")
        self.assertEqual((session.table().rows(), len(session)), ([], 6))

    def test_undo(self):
        session = Session(doc_made())
        tables = [session.table()]
        for stop, name, entry in ((A1, "x", "q"), (A1, "x", "p"), (A1, "x", "p"), (A0, "y", "q")):
            session.show(stop, name, entry)
            tables.append(session.table())
        session.hide(A1, "x")
        for table in tables[::-1]:
            self.assertEqual(session.undo(), None)
            self.assertEqual(session.table(), table)
        self.assertEqual(len(session), 0)
        for _ in range(2):
            with self.assertRaises(NothingToUndo) as caught:
                session.undo()
            self.assertEqual(caught.exception.name, "undo")
        session.show(A0, "y", "q")
        session.undo()
        self.assertEqual((session.table(), len(session)), (tables[0], 0))

    def test_tables_that_were_asked_for_stay(self):
        session = Session(doc_made())
        table = session.table()
        session.show(A0, "y", "q")
        self.assertEqual(len(table), 0)
        session.table().rows().clear()
        self.assertEqual(len(session.table()), 1)

    def test_errors(self):
        session = Session(unreached_made())
        session.show(A0, "x", "p")
        session.show(B0, "y", "q")
        before = seen(session)
        for strict in (False, True):
            session.strict = strict
            for value in ODD_VALUES + (("a", 1), ("a", False), ("z", 0), ["a", 0]):
                for call in (lambda: session.show(value, "none", "none"), lambda: session.hide(value, "none")):
                    with self.assertRaises(BadStop) as caught:
                        call()
                    self.assertTrue(caught.exception.stop is value)
            for value in ODD_VALUES + ("p", "none"):
                for call in (lambda: session.show(A0, value, "none"), lambda: session.hide(A0, value)):
                    with self.assertRaises(UnknownName) as caught:
                        call()
                    self.assertTrue(caught.exception.name is value)
            for value in ODD_VALUES + ("x", "none", ("f", "x"), ("f", "p", "p", "p"), ["f"], ("F",)):
                if not isinstance(value, tuple) or value != ("a",):
                    with self.assertRaises(BadShown) as caught:
                        session.show(A0, "x", value)
                    self.assertTrue(caught.exception.what is value)
            for stop, name in ((A0, "y"), (B0, "x"), (C0, "x")):
                with self.assertRaises(UnknownName) as caught:
                    session.hide(stop, name)
                self.assertEqual(caught.exception.name, name)
            session.strict = False
            self.assertEqual(seen(session), before)

    def test_too_many_nodes(self):
        with self.assertRaises(TooMany) as caught:
            Session(lattice(16))
        self.assertEqual(caught.exception.limit, 20000)


class StrictTest(unittest.TestCase):
    def test_it_is_told(self):
        session = Session(doc_made())
        session.strict = True
        self.assertTrue(session.strict is True)
        self.assertEqual(session.be_strict(False), None)
        self.assertTrue(session.strict is False)
        session.be_strict(value=True)
        self.assertTrue(session.strict is True)
        session.be_strict(True)
        self.assertEqual((session.strict, len(session)), (True, 0))
        for value in ODD_VALUES + (0, 1, "True"):
            if value is not True and value is not False:
                with self.assertRaises(BadTruth) as caught:
                    session.be_strict(value)
                self.assertTrue(caught.exception.truth is value)
                with self.assertRaises(BadTruth) as caught:
                    session.strict = value
                self.assertTrue(caught.exception.truth is value)
                self.assertTrue(session.strict is True)

    def test_untrue_entries(self):
        session = Session(doc_made())
        session.show(A1, "x", "q")
        session.be_strict(True)
        # What is shown already stays, and can be hidden and taken back.
        self.assertEqual(session.table().rows(), [(A1, "x", "q")])
        for entry in ("q", ("f", "p"), ("h",), ("f", "q", "q")):
            with self.assertRaises(Untrue) as caught:
                session.show(A1, "y", entry)
            self.assertTrue(caught.exception.what is entry)
        self.assertEqual((session.table().rows(), len(session)), ([(A1, "x", "q")], 1))
        session.show(A1, "y", "p")
        session.show(A1, "y", ("f", "q"))
        session.show(A0, "y", "p")
        session.hide(A1, "x")
        session.undo()
        self.assertEqual(session.table().entry(A1, "x"), "q")
        session.be_strict(False)
        session.show(A1, "y", "q")
        self.assertEqual(len(session), 5)

    def test_late_entries_are_untrue(self):
        session = Session(ring_made())
        session.strict = True
        with self.assertRaises(Untrue):
            session.show(("b", 1), "x", "p")

    def test_where_no_way_leads_all_may_be_shown(self):
        session = Session(unreached_made())
        session.strict = True
        session.show(B0, "y", "p")
        session.show(B0, "y", ("h", "q"))
        with self.assertRaises(Untrue):
            session.show(A0, "x", "q")
        self.assertEqual(session.table().rows(), [(B0, "y", ("h", "q"))])

    def test_against_told_by(self):
        rng = random.Random(131)
        told = {True: 0, False: 0}
        for made in some_made(131, 30):
            session = Session(made)
            session.be_strict(True)
            for stop in made.all_stops():
                for name in made.source.names():
                    for entry in rng.sample(tellings(made), min(3, len(tellings(made)))):
                        right = not is_asked(made, stop) or entry in told_by(made, stop, name)
                        told[right] += 1
                        if right:
                            session.show(stop, name, entry)
                            self.assertEqual(session.table().entry(stop, name), entry)
                        else:
                            with self.assertRaises(Untrue):
                                session.show(stop, name, entry)
        self.assertTrue(min(told.values()) > 50)


class TrialTest(unittest.TestCase):
    def session(self):
        session = Session(doc_made())
        session.show(A1, "x", "q")
        session.show(A1, "y", "q")
        return session

    def test_it_is_as_ahead(self):
        session = self.session()
        before = seen(session)
        with session.trial() as same:
            self.assertTrue(same is session)
            self.assertEqual(len(session), 2)
            session.show(A0, "x", "p")
            session.hide(A1, "x")
            session.strict = True
            self.assertEqual(len(session), 4)
            session.undo()
        self.assertEqual(seen(session), before)
        with session.trial():
            session.undo()
            session.undo()
            self.assertEqual((len(session), len(session.table())), (0, 0))
            with self.assertRaises(NothingToUndo):
                session.undo()
        self.assertEqual(seen(session), before)
        with session.trial():
            pass
        self.assertEqual(seen(session), before)

    def test_an_error_passes_on(self):
        session = self.session()
        before = seen(session)
        for error in (Stopped, BadStop):
            with self.assertRaises(error):
                with session.trial():
                    session.show(A0, "x", "p")
                    session.be_strict(True)
                    if error is Stopped:
                        raise Stopped
                    session.show(None, "x", "p")
            self.assertEqual(seen(session), before)

    def test_keep(self):
        session = self.session()
        ahead = session.table()
        with session.trial():
            session.show(A0, "x", "p")
            session.show(A0, "y", "p")
            session.strict = True
            self.assertEqual(session.keep(), None)
            kept = session.table()
            session.hide(A0, "x")
            session.strict = False
            self.assertEqual(len(session), 5)
        self.assertEqual((session.table(), session.strict, len(session)), (kept, True, 3))
        session.undo()
        self.assertEqual((session.table(), session.strict, len(session)), (ahead, True, 2))
        session.undo()
        self.assertEqual(session.table().rows(), [(A1, "x", "q")])

    def test_the_last_keep_counts(self):
        session = self.session()
        with session.trial():
            session.keep()
            session.show(A0, "x", "p")
            session.keep()
            session.show(A0, "y", "p")
            session.keep()
            session.undo()
            session.undo()
        self.assertEqual(len(session.table()), 4)
        self.assertEqual(len(session), 3)

    def test_a_keep_without_changes_is_a_change(self):
        session = self.session()
        before = session.table()
        with session.trial():
            session.keep()
        self.assertEqual((session.table(), len(session)), (before, 3))
        session.undo()
        self.assertEqual((session.table(), len(session)), (before, 2))

    def test_a_keep_behind_undo(self):
        session = self.session()
        before = session.table()
        with session.trial():
            session.undo()
            session.undo()
            session.keep()
        self.assertEqual((len(session.table()), len(session)), (0, 3))
        session.undo()
        self.assertEqual((session.table(), len(session)), (before, 2))

    def test_kept_though_an_error_passes(self):
        session = self.session()
        with self.assertRaises(Stopped):
            with session.trial():
                session.show(A0, "x", "p")
                session.keep()
                session.show(A0, "y", "p")
                raise Stopped
        self.assertEqual((len(session.table()), len(session)), (3, 3))

    def test_keep_outside_of_trials(self):
        session = self.session()
        before = seen(session)

        def check():
            with self.assertRaises(NothingToUndo) as caught:
                session.keep()
            self.assertEqual(caught.exception.name, "keep")
            self.assertEqual(seen(session), before)

        check()
        with session.trial():
            pass
        check()
        with self.assertRaises(Stopped):
            with session.trial():
                raise Stopped
        check()
        trial = session.trial()
        check()
        with trial:
            pass
        check()

    def test_a_trial_begins_with_its_with(self):
        session = self.session()
        trial = session.trial()
        session.show(A0, "x", "p")
        with trial:
            session.show(A0, "y", "p")
        self.assertEqual((len(session.table()), len(session)), (3, 3))

    def test_trials_in_trials(self):
        for inner, outer in itertools.product((False, True), repeat=2):
            session = self.session()
            first = session.table()
            with session.trial():
                session.show(A0, "x", "p")
                second = session.table()
                with session.trial():
                    session.show(A0, "y", "p")
                    session.strict = True
                    third = session.table()
                    self.assertEqual(len(session), 4)
                    if inner:
                        session.keep()
                    session.hide(A0, "y")
                self.assertEqual((session.table(), session.strict), (third, True) if inner else (second, False))
                self.assertEqual(len(session), 4 if inner else 3)
                if outer:
                    session.keep()
                session.show(A0, "i", "q")
            if not outer:
                self.assertEqual((session.table(), session.strict, len(session)), (first, False, 2))
                continue
            self.assertEqual((session.table(), session.strict), (third, True) if inner else (second, False))
            self.assertEqual(len(session), 3)
            session.undo()
            self.assertEqual((session.table(), len(session)), (first, 2))

    def test_an_error_that_passes_through_two_trials(self):
        for inner, outer in itertools.product((False, True), repeat=2):
            session = self.session()
            before = seen(session)
            with self.assertRaises(Stopped):
                with session.trial():
                    session.show(A0, "x", "p")
                    if outer:
                        session.keep()
                    with session.trial():
                        session.show(A0, "y", "p")
                        if inner:
                            session.keep()
                        raise Stopped
            if outer:
                self.assertEqual((len(session.table()), len(session)), (3, 3))
                self.assertEqual(session.table().entry(A0, "x"), "p")
            else:
                self.assertEqual(seen(session), before)
            with self.assertRaises(NothingToUndo):
                session.keep()

    def test_an_error_that_is_caught_in_the_outer_trial(self):
        session = self.session()
        with session.trial():
            try:
                with session.trial():
                    session.show(A0, "x", "p")
                    raise Stopped
            except Stopped:
                pass
            self.assertEqual(len(session), 2)
            session.show(A0, "y", "p")
            session.keep()
        self.assertEqual([session.table().entry(A0, name) for name in "xy"], [None, "p"])
        self.assertEqual(len(session), 3)

    def test_an_inner_keep_does_not_keep_the_outer_one(self):
        session = self.session()
        before = seen(session)
        with session.trial():
            for _ in range(3):
                with session.trial():
                    session.show(A0, "x", "p")
                    session.keep()
            self.assertEqual(len(session), 5)
        self.assertEqual(seen(session), before)

    def test_attempt(self):
        session = self.session()
        before = seen(session)
        for value in (None, 5, [1], "x"):
            self.assertTrue(session.attempt(lambda same: same.show(A0, "x", "p") or value) is value)
            self.assertEqual(seen(session), before)
        self.assertTrue(session.attempt(visitor=lambda same: same) is session)

        def visit(same):
            same.show(A0, "x", "p")
            same.keep()
            same.show(A0, "y", "p")
            return len(same)

        self.assertEqual(session.attempt(visit), 4)
        self.assertEqual((len(session.table()), len(session)), (3, 3))

        def wrong(same):
            same.undo()
            raise Stopped

        with self.assertRaises(Stopped):
            session.attempt(wrong)
        self.assertEqual((len(session.table()), len(session)), (3, 3))
        with self.assertRaises(NothingToUndo):
            session.keep()
        self.assertEqual(session.attempt(lambda one: one.attempt(lambda two: two.attempt(visit))), 5)
        self.assertEqual(len(session), 3)

    def test_changes_trials_and_undo_in_any_order(self):
        rng = random.Random(132)
        for _ in range(300):
            session = Session(doc_made())
            Twin(self, rng, session).go(rng.randint(3, 12))


class Twin:
    """Does what a session does by lists of its own."""

    def __init__(self, test, rng, session):
        self.test, self.rng, self.session = test, rng, session
        self.rows, self.earlier, self.strict = {}, [], False

    def check(self):
        rows = sorted((*key, entry) for key, entry in self.rows.items())
        self.test.assertEqual(self.session.table().rows(), rows)
        self.test.assertEqual((len(self.session), self.session.strict), (len(self.earlier), self.strict))

    def go(self, many, kept=None):
        """Do some things; `kept` is a list for what is kept in the trial in which this is."""
        for _ in range(many):
            kind = self.rng.choice(["show", "show", "hide", "undo", "strict", "keep", "trial", "error"])
            if kind == "show":
                self.show()
            elif kind == "hide" and self.rows:
                key = self.rng.choice(sorted(self.rows))
                self.session.hide(*key)
                self.earlier.append(dict(self.rows))
                del self.rows[key]
            elif kind == "undo" and self.earlier:
                self.session.undo()
                self.rows = dict(self.earlier.pop())
            elif kind == "strict":
                self.strict = not self.strict
                self.session.strict = self.strict
            elif kind == "keep" and kept is not None:
                self.session.keep()
                kept[:] = [(dict(self.rows), self.strict)]
            elif kind == "trial":
                self.trial(many // 2)
            elif kind == "error" and kept is not None and self.rng.random() < 0.3:
                self.check()
                raise Stopped
            self.check()

    def show(self):
        stop, name = self.rng.choice([A0, A1]), self.rng.choice("ixy")
        entry = self.rng.choice(["p", "q", ("f", "q")])
        try:
            self.session.show(stop, name, entry)
        except Untrue:
            self.test.assertTrue(self.strict and entry not in told_by(doc_made(), stop, name))
            return
        self.test.assertTrue(not self.strict or entry in told_by(doc_made(), stop, name))
        self.earlier.append(dict(self.rows))
        self.rows[(stop, name)] = entry

    def trial(self, many):
        ahead = (dict(self.rows), list(self.earlier), self.strict)
        kept = []
        try:
            with self.session.trial() as same:
                self.test.assertTrue(same is self.session)
                self.go(many, kept)
        except Stopped:
            pass
        self.rows, self.earlier, self.strict = ahead
        if kept:
            self.earlier.append(self.rows)
            self.rows, self.strict = kept[0]
        self.rows = dict(self.rows)


class LikeAllTest(unittest.TestCase):
    def test_values_that_are_equal_to_all(self):
        session = Session(doc_made())
        with self.assertRaises(BadStop):
            session.show(LikeAll(), LikeAll(), LikeAll())
        with self.assertRaises(BadTruth):
            session.be_strict(LikeAll())


if __name__ == "__main__":
    unittest.main()
