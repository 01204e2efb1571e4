"""Playing: a source and its made code, side by side along a way."""

from valueshown.errors import BadValues
from valueshown.running import first_named, holdings, settings
from valueshown.terms import simple_worth
from valueshown.tracks import Track
from valueshown.ways import check_way


class Walk:
    """Both programs along a way, up to the beginning of its last block, with terms as values."""

    def __init__(self, made, way):
        self._track = Track(made, way)
        self.made = made
        self.way = self._track.way

    def named(self, index):
        """The dict from the names to their terms, where so many rows of the last block have been done."""
        return self._with_terms(self._track.named(index))

    def held(self, index):
        """The dict from the places to their terms, where so many rows of the last block have been done."""
        return self._with_terms(self._track.held(index))

    def late(self, index):
        """The dict from the names to their late terms."""
        return self._with_terms(self._track.late(index))

    def shown(self, stop, entry):
        """The term of what is shown by a place, or by an operation of places."""
        return self._track.term(self._track.shown(stop, entry))

    def history(self, name, index):
        """The list of the terms that a name had so far, the first one ahead."""
        return [self._track.term(number) for number in self._track.history(name, index)]

    def coming(self, name, index):
        """The list of the terms to which a name is set by the further rows of the last block."""
        return [self._track.term(number) for number in self._track.coming(name, index)]

    def returned(self):
        """The tuple of the terms of the returned name and place, or None."""
        numbers = self._track.returned()
        if numbers is None:
            return None
        return (self._track.term(numbers[0]), self._track.term(numbers[1]))

    def _with_terms(self, numbers):
        """A dict of numbers, as one of the terms that have them."""
        return {word: self._track.term(number) for word, number in numbers.items()}


def played(made, way, values, meaning):
    """What all names and places have at the end of a way, as two dicts, with values for the inputs and a meaning."""
    check_way(made.source, way)
    names = made.source.inputs
    if len(values) != len(names):
        raise BadValues(len(names))
    inputs = dict(zip(names, values))

    def simple(term):
        return simple_worth(term, inputs)

    named = first_named(made.source, simple)
    for name, value in settings(made.source, way, simple, meaning):
        named[name] = value
    return (named, holdings(made, way, simple, meaning)[-1])
