"""What stands at blocks and stops, for ways of any length."""

from valueshown.courses import course_of
from valueshown.errors import BadMark, BadWay, UnknownBlock
from valueshown.marks import is_mark
from valueshown.nodes import Known, neat
from valueshown.rounds import Rounds
from valueshown.shapes import Shape
from valueshown.tracing import traced_way


class Standing:
    """The shapes that stand at the blocks and stops of a made code."""

    def __init__(self, made):
        self.made = made
        self.rounds = Rounds(course_of(made))

    def __len__(self):
        return len(self.rounds.listed)

    def __getitem__(self, at):
        if at not in self.made.source:
            raise UnknownBlock(at)
        graph = self.rounds.last(at)
        if graph is None:
            raise BadWay(None)
        return self._shape(graph)

    def __iter__(self):
        raise TypeError("what stands cannot be iterated")

    def at(self, stop):
        """The shape that stands at a stop."""
        counts = counts_at(self.made, stop)
        if self.rounds.last(stop[0]) is None:
            raise BadWay(None)
        return self._shape(neat(self.rounds.graph_at(stop[0], counts)))

    def up_to(self, block, most):
        """The shape for all ways of at most so many blocks to a block."""
        if block not in self.made.source:
            raise UnknownBlock(block)
        if not isinstance(most, int) or isinstance(most, bool):
            raise BadWay(most)
        graph = self.rounds.up_to(block, most)
        if graph is None:
            raise BadWay(most)
        return self._shape(graph)

    def _shape(self, graph):
        """The shape with a graph."""
        return Shape(Known(self.rounds.course.marks, graph))


def always(standing, stop, one, other):
    """Whether two marks are equal at a stop on all ways to its block, for all inputs and meanings."""
    counts = _counts_for(standing, stop, one, other)
    return standing.rounds.are_always_equal(stop[0], counts, one, other)


def unlike_way(standing, stop, one, other):
    """A shortest way to the block of a stop on which two marks are unlike there, or None if they are always equal."""
    counts = _counts_for(standing, stop, one, other)
    return traced_way(standing.rounds, stop[0], counts, one, other)


def counts_at(made, stop):
    """The numbers of the rows of the source, and of the made code, that have been done at a stop."""
    return (made.label(stop), stop[1])


def _counts_for(standing, stop, one, other):
    """The numbers of the rows done at a stop; raises an error for any value that is no stop, or no mark there."""
    counts = counts_at(standing.made, stop)
    for mark in (one, other):
        if not is_mark(mark, standing.rounds.course.positions):
            raise BadMark(mark)
    return counts
