"""Playing: a source and its made code, side by side along a way."""

from valueshown.errors import BadRow, BadShown, BadStop, BadValues, UnknownName
from valueshown.running import first_named, holdings, settings
from valueshown.terms import Pool, simple_worth
from valueshown.ways import check_way
from valueshown.words import is_among, is_entry, is_index, is_return


class Walk:
    """Both programs along a way, up to the beginning of its last block, with terms as values."""

    def __init__(self, made, way):
        check_way(made.source, way)
        self.made = made
        self.way = tuple(way)
        self._block = self.way[-1]
        self._many = len(made.source.rows(self._block))
        self._first, self._steps, self._held = _terms_along(made, self.way)
        self._begin = len(self._steps) - self._many

    def named(self, index):
        """The dict from the names to their terms, where so many rows of the last block have been done."""
        named = dict(self._first)
        for name, term in self._steps_until(index):
            named[name] = term
        return named

    def late(self, index):
        """The dict from the names to their late terms."""
        named = dict(self._first)
        late = {name: None for name in named}
        for name, term in self._steps_until(index):
            late[name] = named[name]
            named[name] = term
        return late

    def held(self, index):
        """The dict from the places to their terms, where so many rows of the last block have been done."""
        if not is_index(index, len(self._held) - 1):
            raise BadRow(index)
        return dict(self._held[index])

    def shown(self, stop, entry):
        """The term of what is shown by a place, or by an operation of places."""
        self.made.label(stop)
        if stop[0] != self._block:
            raise BadStop(stop)
        held = self._held[stop[1]]
        if not is_entry(entry, held):
            raise BadShown(entry)
        if isinstance(entry, tuple):
            return ("op", entry[0], tuple([held[place] for place in entry[1:]]))
        return held[entry]

    def history(self, name, index):
        """The list of the terms that a name had so far, the first one ahead."""
        self._check_name(name)
        return [self._first[name]] + [term for other, term in self._steps_until(index) if other == name]

    def coming(self, name, index):
        """The list of the terms to which a name is set by the further rows of the last block."""
        self._check_name(name)
        done = len(self._steps_until(index))
        return [term for other, term in self._steps[done:] if other == name]

    def returned(self):
        """The tuple of the terms of the returned name and place, or None."""
        end = self.made.source.end(self._block)
        if not is_return(end):
            return None
        return (self.named(self._many)[end[1]], self._held[-1][self.made.returned(self._block)])

    def _steps_until(self, index):
        """What rows of the source set along the way, up to so many rows of the last block."""
        if not is_index(index, self._many):
            raise BadRow(index)
        return self._steps[:self._begin + index]

    def _check_name(self, name):
        """Raise an error for any value that is no name of the source."""
        if not is_among(name, self._first):
            raise UnknownName(name)


def played(made, way, values, meaning):
    """What all names and places have at the end of a way, as two dicts, with values for the inputs and a meaning."""
    check_way(made.source, way)
    names = made.source.inputs
    if len(values) != len(names):
        raise BadValues(len(names))
    inputs = dict(zip(names, values))

    def simple(term):
        return simple_worth(term, inputs)

    named = first_named(made.source, simple)
    for name, value in settings(made.source, way, simple, meaning):
        named[name] = value
    return (named, holdings(made, way, simple, meaning)[-1])


def _terms_along(made, way):
    """The first terms of the names, what rows set along a way, and what places hold in its last block."""
    pool = Pool()

    def simple(term):
        return pool.number(term)

    def meaning(operation, operands):
        return pool.number(("op", operation, operands))

    first = _with_terms(pool, first_named(made.source, simple))
    done = settings(made.source, way, simple, meaning)
    held = holdings(made, way, simple, meaning)
    return (
        first,
        [(name, pool.term(number)) for name, number in done],
        [_with_terms(pool, numbers) for numbers in held],
    )


def _with_terms(pool, numbers):
    """A dict of numbers, as one of the terms that have them."""
    return {word: pool.term(number) for word, number in numbers.items()}
