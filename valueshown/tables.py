"""Tables: what is shown for names at stops."""

from valueshown.errors import BadShown, UnknownName
from valueshown.words import is_among, is_entry


class Table:
    """What is shown of the names at the stops of a made code."""

    def __init__(self, made, rows=()):
        self.made = made
        self._shown = _shown_by(made, rows)
        self._rows = [
            (stop, name, entry) for stop, shown in self._shown.items() for name, entry in shown.items()
        ]

    def __len__(self):
        return len(self._rows)

    def __iter__(self):
        return iter(self._rows)

    def __getitem__(self, at):
        self.made.label(at)
        return dict(self._shown[at])

    def __call__(self, stop):
        return ", ".join([f"{name}={written(entry)}" for name, entry in self[stop].items()])

    def __eq__(self, other):
        return isinstance(other, Table) and self.made == other.made and self._rows == other._rows

    def __or__(self, other):
        self._check_made(other)
        more = [row for row in other.rows() if row[1] not in self[row[0]]]
        return Table(self.made, self.rows() + more)

    def __le__(self, other):
        self._check_made(other)
        return all([row[1] in other[row[0]] for row in self.rows()])

    def entry(self, stop, name):
        """What is shown for a name at a stop, or None."""
        shown = self[stop]
        if not is_among(name, self.made.source.names()):
            raise UnknownName(name)
        return shown.get(name)

    def rows(self):
        """The list of the tuples (stop, name, entry), by the stops in order, then by names."""
        return list(self._rows)

    def without(self, stop, name):
        """The table that shows nothing for a name at a stop."""
        self.entry(stop, name)
        return Table(self.made, [row for row in self.rows() if row[:2] != (stop, name)])

    def with_entry(self, stop, name, entry):
        """The table that shows an entry for a name at a stop."""
        return Table(self.made, self.without(stop, name).rows() + [(stop, name, entry)])

    def _check_made(self, other):
        """Raise an error for any value that is no table of the same made code."""
        if not isinstance(other, Table) or self.made != other.made:
            raise BadShown(other)


def written(entry):
    """The text of what is shown."""
    if not isinstance(entry, tuple):
        return entry
    places = ",".join(entry[1:])
    return f"{entry[0]}({places})"


def _shown_by(made, rows):
    """The dict from all stops to the dicts from names, ascending, to what rows show."""
    names, places = made.source.names(), made.places()
    found = {}
    for row in rows:
        if not isinstance(row, tuple) or len(row) != 3:
            raise BadShown(row)
        stop, name, entry = row
        made.label(stop)
        if not is_among(name, names):
            raise UnknownName(name)
        if not is_entry(entry, places):
            raise BadShown(entry)
        if (stop, name) in found:
            raise BadShown(row)
        found[(stop, name)] = entry
    return {
        stop: {name: found[(stop, name)] for name in names if (stop, name) in found}
        for stop in made.all_stops()
    }
