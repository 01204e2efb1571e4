"""Sessions: a table that is changed, with changes that can be taken back, and trials."""

from valueshown.errors import BadTruth, NothingToUndo, UnknownName, Untrue
from valueshown.moments import moment_at
from valueshown.standing import Standing
from valueshown.tables import Table
from valueshown.telling import is_asked


class State:
    """What a session is at one time: its table, those ahead of changes, whether it is strict, its innermost trial."""

    def __init__(self, current, earlier, is_strict, innermost):
        self.current = current
        self.earlier = earlier
        self.is_strict = is_strict
        self.innermost = innermost


class Session:
    """A table of a made code that is changed entry by entry.

    All that changes is the state, which another one replaces as a whole.
    """

    def __init__(self, made):
        self.state = State(Table(made), (), False, None)
        self._standing = Standing(made)

    def __len__(self):
        return len(self.state.earlier)

    @property
    def strict(self):
        """Whether only entries that tell their names may be shown at asked stops."""
        return self.state.is_strict

    @strict.setter
    def strict(self, value):
        if not isinstance(value, bool):
            raise BadTruth(value)
        self.state = State(self.state.current, self.state.earlier, value, self.state.innermost)

    def be_strict(self, value):
        """Tell whether only entries that tell their names may be shown at asked stops."""
        self.strict = value

    def table(self):
        """The table as it is now."""
        return self.state.current

    def show(self, stop, name, entry):
        """Show an entry for a name at a stop, in the place of an earlier one."""
        changed = self.state.current.with_entry(stop, name, entry)
        if self.state.is_strict and is_asked(changed.made, stop):
            if not moment_at(self._standing, stop).tells(entry, name):
                raise Untrue(entry)
        self._change(changed)

    def hide(self, stop, name):
        """Show nothing more for a name at a stop."""
        if self.state.current.entry(stop, name) is None:
            raise UnknownName(name)
        self._change(self.state.current.without(stop, name))

    def undo(self):
        """Take back the last change."""
        earlier = self.state.earlier
        if not earlier:
            raise NothingToUndo("undo")
        self.state = State(earlier[-1], earlier[:-1], self.state.is_strict, self.state.innermost)

    def trial(self):
        """A trial, for one `with`."""
        return Trial(self)

    def keep(self):
        """Have what is now also be there behind the innermost trial."""
        if self.state.innermost is None:
            raise NothingToUndo("keep")
        self.state.innermost.keep_now()

    def attempt(self, visitor):
        """What a function returns that is called with the session in a trial."""
        with self.trial() as session:
            return visitor(session)

    def _change(self, changed):
        """Have another table, as one change more."""
        now = self.state
        self.state = State(changed, (*now.earlier, now.current), now.is_strict, now.innermost)


class Trial:
    """What is tried in a session: behind it the session is as ahead of it, but for what is kept."""

    def __init__(self, session):
        self.session = session
        self.ahead = session.state
        self.behind = session.state

    def __enter__(self):
        self.ahead = self.session.state
        self.behind = self.ahead
        self.session.state = State(self.ahead.current, self.ahead.earlier, self.ahead.is_strict, self)
        return self.session

    def __exit__(self, kind, value, trace):
        self.session.state = self.behind

    def keep_now(self):
        """Have what is now be there behind the trial, as one change more than ahead of it."""
        now, ahead = self.session.state, self.ahead
        self.behind = State(now.current, (*ahead.earlier, ahead.current), now.is_strict, ahead.innermost)
