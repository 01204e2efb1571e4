"""Playing by numbers: what Walk tells, with a number for each term."""

from valueshown.errors import BadRow, BadShown, BadStop, UnknownName
from valueshown.running import first_named, holdings, settings
from valueshown.terms import Pool
from valueshown.ways import check_way
from valueshown.words import is_among, is_entry, is_index, is_return


class Track:
    """Both programs along a way, up to the beginning of its last block, with numbers for terms.

    Terms that are built alike have one number, so that they can be compared
    however deep they are.
    """

    def __init__(self, made, way):
        check_way(made.source, way)
        self.made = made
        self.way = tuple(way)
        self._many = len(made.source.rows(way[-1]))
        self._pool, self._first, self._steps, self._held = _numbers_along(made, self.way)
        self._begin = len(self._steps) - self._many

    def term(self, number):
        """The term with a number, or of what is shown."""
        return self._pool.term(number)

    def named(self, index):
        """The dict from the names to their numbers, where so many rows of the last block have been done."""
        named = dict(self._first)
        for name, number in self._steps_until(index):
            named[name] = number
        return named

    def late(self, index):
        """The dict from the names to the numbers of their late terms."""
        named = dict(self._first)
        late = {name: self._pool.known(None) for name in named}
        for name, number in self._steps_until(index):
            late[name] = named[name]
            named[name] = number
        return late

    def held(self, index):
        """The dict from the places to their numbers, where so many rows of the last block have been done."""
        if not is_index(index, len(self._held) - 1):
            raise BadRow(index)
        return dict(self._held[index])

    def shown(self, stop, entry):
        """The number of what is shown by a place, or by an operation of places.

        An operation that no row has given has none, but the operands' numbers in it.
        """
        self.check_stop(stop)
        held = self._held[stop[1]]
        if not is_entry(entry, held):
            raise BadShown(entry)
        if isinstance(entry, tuple):
            return self._pool.known(("op", entry[0], tuple([held[place] for place in entry[1:]])))
        return held[entry]

    def history(self, name, index):
        """The list of the numbers that a name had so far, the first one ahead."""
        self._check_name(name)
        return [self._first[name]] + [number for other, number in self._steps_until(index) if other == name]

    def coming(self, name, index):
        """The list of the numbers to which a name is set by the further rows of the last block."""
        self._check_name(name)
        done = len(self._steps_until(index))
        return [number for other, number in self._steps[done:] if other == name]

    def returned(self):
        """The tuple of the numbers of the returned name and place, or None."""
        end = self.made.source.end(self.way[-1])
        if not is_return(end):
            return None
        return (self.named(self._many)[end[1]], self._held[-1][self.made.returned(self.way[-1])])

    def check_stop(self, stop):
        """Raise an error for any value that is no stop of the last block."""
        self.made.label(stop)
        if stop[0] != self.way[-1]:
            raise BadStop(stop)

    def _steps_until(self, index):
        """What rows of the source set along the way, up to so many rows of the last block."""
        if not is_index(index, self._many):
            raise BadRow(index)
        return self._steps[:self._begin + index]

    def _check_name(self, name):
        """Raise an error for any value that is no name of the source."""
        if not is_among(name, self._first):
            raise UnknownName(name)


def _numbers_along(made, way):
    """The pool of the terms, and by numbers: what names have first, what rows set, what places hold at the end."""
    pool = Pool()
    # What is late may be nothing where all names and places have something.
    pool.number(None)

    def simple(term):
        return pool.number(term)

    def meaning(operation, operands):
        return pool.number(("op", operation, operands))

    first = first_named(made.source, simple)
    return (pool, first, settings(made.source, way, simple, meaning), holdings(made, way, simple, meaning))
