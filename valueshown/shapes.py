"""Shapes: what is known of the values of all names, late names and places at one time."""

from valueshown.errors import BadMark, BadShape
from valueshown.expressions import Expressions
from valueshown.marks import in_order, is_mark, is_operation, is_plain_mark, plain_marks
from valueshown.nodes import MOST_NODES, NOTHING, OPEN, common, is_within, neat, numbered
from valueshown.words import is_index


def marks_of(made):
    """The ascending list of the plain marks of a made code."""
    return plain_marks(made.source.names(), made.places())


class Shape:
    """The nodes that are known, and the one at which each mark stands."""

    def __init__(self, value):
        if not _is_shape(value):
            raise BadShape(value)
        self._value = value
        self._spots = {mark: spot for mark, spot in value[1]}
        self._numbers = numbered(value[0])

    def __len__(self):
        return len(self._value[0])

    def __eq__(self, other):
        return isinstance(other, Shape) and self._value == other._value

    def __contains__(self, x):
        return is_mark(x, self._spots)

    def __and__(self, other):
        self._check_marks(other)
        return Shape(with_marks(common(graph_of(self), graph_of(other)), self._spots))

    def __le__(self, other):
        self._check_marks(other)
        return is_within(graph_of(self), graph_of(other))

    def value(self):
        """The value of the shape."""
        return self._value

    def all_marks(self):
        """The ascending list of the plain marks."""
        return list(self._spots)

    def holds(self, one, other):
        """Whether two marks are equal by the shape."""
        for mark in (one, other):
            if mark not in self:
                raise BadMark(mark)
        expressions = Expressions()
        pair = (expressions.of(one), expressions.of(other))
        return expressions.are_equal(pair, self._numbers, self._spots)

    @staticmethod
    def opening(made):
        """The shape of the beginning of a way."""
        marks = marks_of(made)
        return Shape(with_marks(opening_graph(made, marks), marks))

    def _check_marks(self, other):
        """Raise an error for any value that is no shape for the same marks."""
        if not isinstance(other, Shape) or self.all_marks() != other.all_marks():
            raise BadShape(other)


def graph_of(shape):
    """The graph of a shape, with its spots in the order of the marks."""
    nodes, stands = shape.value()
    return (nodes, tuple([spot for _, spot in stands]))


def with_marks(graph, marks):
    """The value of a shape: a graph with the marks that stand at its nodes."""
    return (graph[0], tuple([(mark, spot) for mark, spot in zip(marks, graph[1])]))


def opening_graph(made, marks):
    """The graph of the beginning of a way for the marks of a made code."""
    held = [made.place_of(name) for name in made.source.inputs]
    nodes = [NOTHING] + [OPEN for _ in held] + [OPEN for _ in made.entries]
    spots = {mark: 0 for mark in marks}
    for index, name in enumerate(made.source.inputs):
        spots[("name", name)] = 1 + index
    for index, place in enumerate(held + list(made.entries)):
        spots[("place", place)] = 1 + index
    return neat((nodes, [spots[mark] for mark in marks]))


def _is_shape(value):
    """Whether any value is the value of a shape."""
    if not isinstance(value, tuple) or len(value) != 2:
        return False
    nodes, stands = value
    if not isinstance(nodes, tuple) or not isinstance(stands, tuple) or len(nodes) > MOST_NODES:
        return False
    if not all([_is_node(part, index) for index, part in enumerate(nodes)]):
        return False
    if not all([_is_stand(stand, len(nodes)) for stand in stands]):
        return False
    return _is_neat(nodes, stands)


def _is_node(value, index):
    """Whether any value may be the node with an index."""
    if is_operation(value):
        return all([is_index(operand, index - 1) for operand in value[2]])
    return isinstance(value, tuple) and len(value) == 1 and isinstance(value[0], str) and value in (OPEN, NOTHING)


def _is_stand(value, many):
    """Whether any value is a tuple of a mark and the index of one of so many nodes."""
    return (
        isinstance(value, tuple)
        and len(value) == 2
        and is_plain_mark(value[0])
        and is_index(value[1], many - 1)
    )


def _is_neat(nodes, stands):
    """Whether marks and nodes are in their order, each one once and needed."""
    marks = [mark for mark, _ in stands]
    if marks != in_order(marks):
        return False
    if len(numbered(nodes)) + len([part for part in nodes if part == OPEN]) < len(nodes):
        return False
    graph = (nodes, tuple([spot for _, spot in stands]))
    return neat(graph) == graph
