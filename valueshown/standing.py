"""What stands at blocks and stops, for ways of any length."""

from valueshown.errors import BadMark, BadWay, UnknownBlock
from valueshown.leads import led_to
from valueshown.marks import is_mark
from valueshown.rounds import Rounds
from valueshown.shapes import Shape, with_marks


class Standing:
    """The shapes that stand at the blocks and stops of a made code."""

    def __init__(self, made):
        self.made = made
        self.rounds = Rounds(made)
        self._numbers = tuple(range(self.rounds.many))

    def __len__(self):
        return len(self._numbers)

    def __getitem__(self, at):
        if at not in self.made.source:
            raise UnknownBlock(at)
        graph = self.rounds.last(at)
        if graph is None:
            raise BadWay(None)
        return Shape(with_marks(graph, self.rounds.marks))

    def __iter__(self):
        raise TypeError("what stands cannot be iterated")

    def at(self, stop):
        """The shape that stands at a stop."""
        self.made.label(stop)
        return led_to(self[stop[0]], self.made, stop)

    def up_to(self, block, most):
        """The shape for all ways of at most so many blocks to a block."""
        if block not in self.made.source:
            raise UnknownBlock(block)
        if not isinstance(most, int) or isinstance(most, bool):
            raise BadWay(most)
        graph = self.rounds.up_to(block, most)
        if graph is None:
            raise BadWay(most)
        return Shape(with_marks(graph, self.rounds.marks))


def always(standing, stop, one, other):
    """Whether two marks are equal at a stop on all ways to its block, for all inputs and meanings."""
    _check(standing, stop, one, other)
    return standing.rounds.are_always_equal(stop, one, other)


def unlike_way(standing, stop, one, other):
    """A shortest way to the block of a stop on which two marks are unlike there, or None if they are always equal."""
    _check(standing, stop, one, other)
    return standing.rounds.unlike_way(stop, one, other)


def _check(standing, stop, one, other):
    """Raise an error for any value that is no stop or no mark of the made code."""
    standing.made.label(stop)
    for mark in (one, other):
        if not is_mark(mark, standing.rounds.marks):
            raise BadMark(mark)
