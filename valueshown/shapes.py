"""Shapes: what is known of the values of all names, late names and places at one time."""

from valueshown.beginnings import beginning, opening_graph
from valueshown.errors import BadMark, BadShape
from valueshown.marks import is_mark, is_operation, is_plain_mark, node_of
from valueshown.nodes import MOST_NODES, NOTHING, OPEN, Known, Overlay, common, is_within, neat, numbered
from valueshown.words import is_index


def marks_of(made):
    """The ascending list of the plain marks of a made code."""
    return list(beginning(made))


class Shape:
    """The nodes that are known, and the one at which each mark stands."""

    def __init__(self, value):
        known = value if isinstance(value, Known) else _known_of(value)
        self._marks = known.marks
        self._graph = known.graph

    def __len__(self):
        return len(self._graph[0])

    def __eq__(self, other):
        return isinstance(other, Shape) and self._graph == other._graph and self._marks == other._marks

    def __contains__(self, x):
        return is_mark(x, self._marks)

    def __and__(self, other):
        self._check_marks(other)
        if self._graph == other._graph:
            return self
        return Shape(Known(self._marks, common(self._graph, other._graph)))

    def __le__(self, other):
        self._check_marks(other)
        return is_within(self._graph, other._graph)

    def value(self):
        """The value of the shape."""
        return (self._graph[0], tuple(zip(self._marks, self._graph[1])))

    def known(self):
        """The tuple of the marks, and the neat graph at whose nodes they stand."""
        return (self._marks, self._graph)

    def all_marks(self):
        """The ascending list of the plain marks."""
        return list(self._marks)

    def holds(self, one, other):
        """Whether two marks are equal by the shape."""
        for mark in (one, other):
            if not is_mark(mark, self._marks):
                raise BadMark(mark)
        pile = Overlay(numbered(self._graph[0]))
        spots = dict(zip(self._marks, self._graph[1]))

        def simple(mark):
            return spots[mark]

        return node_of(one, simple, pile) == node_of(other, simple, pile)

    @staticmethod
    def opening(made):
        """The shape of the beginning of a way."""
        spots = beginning(made)
        return Shape(Known(tuple(list(spots)), opening_graph(spots)))

    def _check_marks(self, other):
        """Raise an error for any value that is no shape for the same marks."""
        if not isinstance(other, Shape) or self._marks != other._marks:
            raise BadShape(other)


def _known_of(value):
    """What any value that is the value of a shape tells; raises BadShape(value) for any other one."""
    if not _is_form(value) or not _are_stands(value[1], len(value[0])):
        raise BadShape(value)
    nodes, stands = value
    graph = (nodes, tuple([spot for _, spot in stands]))
    if len(numbered(nodes)) + len([part for part in nodes if part == OPEN]) < len(nodes) or neat(graph) != graph:
        raise BadShape(value)
    return Known(tuple([mark for mark, _ in stands]), graph)


def _is_form(value):
    """Whether any value is a tuple of two tuples, the first one with not too many nodes."""
    if not isinstance(value, tuple) or len(value) != 2:
        return False
    nodes, stands = value
    if not isinstance(nodes, tuple) or not isinstance(stands, tuple) or len(nodes) > MOST_NODES:
        return False
    return all([_is_node(part, index) for index, part in enumerate(nodes)])


def _is_node(value, index):
    """Whether any value may be the node with an index."""
    if is_operation(value):
        return all([is_index(operand, index - 1) for operand in value[2]])
    return isinstance(value, tuple) and len(value) == 1 and isinstance(value[0], str) and value in (OPEN, NOTHING)


def _are_stands(value, many):
    """Whether a tuple of any values has tuples of marks, ascending, and indexes of so many nodes."""
    if not all([_is_stand(stand, many) for stand in value]):
        return False
    return all([one[0] < other[0] for one, other in zip(value, value[1:])])


def _is_stand(value, many):
    """Whether any value is a tuple of a mark and the index of one of so many nodes."""
    if not isinstance(value, tuple) or len(value) != 2:
        return False
    return is_plain_mark(value[0]) and is_index(value[1], many - 1)
