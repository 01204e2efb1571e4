"""Shortest ways on which two marks are unlike, found backwards from the block where they are."""

from valueshown.marks import node_of
from valueshown.nodes import OPEN, Overlay, Pile, numbered


def least_blocks(rounds, block, counts, one, other):
    """The least number of blocks of a way to a block on which two marks are unlike there, or None.

    The counts tell how many rows of each lane have been done in the block.
    """
    if rounds.are_always_equal(block, counts, one, other):
        return None
    return _first_unlike(rounds.changes[block], Trace(rounds.course, block, counts, (one, other)))


def traced_way(rounds, block, counts, one, other):
    """A shortest such way, or None."""
    if rounds.are_always_equal(block, counts, one, other):
        return None
    trace = Trace(rounds.course, block, counts, (one, other))
    way = [block]
    for many in reversed(range(1, _first_unlike(rounds.changes[block], trace))):
        # What stands at a block in one round more is led to from what is new in the round ahead.
        newest = rounds.listed[many - 1]
        ahead = [earlier for earlier in newest if way[-1] in rounds.course.source.nexts(earlier)]
        way.append(_unlike_ahead(ahead, newest, trace))
    return way[::-1]


class Trace:
    """Two marks at a place in a block, told by what is at the beginning of that block, or of ones ahead of it.

    What they are is told by nodes, of which those of the marks of the course, by
    their positions, are the first ones: seen from behind many rows they are so
    deep, and share so much, that they cannot be compared themselves. They are
    asked for only where several blocks ahead come into question.
    """

    def __init__(self, course, block, counts, marks):
        self._course = course
        self._begin = (block, counts, marks)
        self._free = Pile([OPEN for _ in course.marks])
        self._pair = None
        self._passed = []

    def go_back(self, block):
        """Tell the marks by what is at the beginning of a block, ahead of the one so far."""
        self._passed.append(block)

    def try_back(self, block, graph):
        """Go back to a block if the marks are unlike by a graph at its beginning; whether they are."""
        pair = self._ahead(self._now(), block)
        if self._are_equal(pair, graph):
            return False
        self._pair = pair
        return True

    def is_unlike(self, graph):
        """Whether the marks are unlike by a graph at the beginning of the block."""
        return not self._are_equal(self._now(), graph)

    def _now(self):
        """The nodes of both marks."""
        if self._pair is None:
            self._pair = self._at_first()
        for block in self._passed:
            self._pair = self._ahead(self._pair, block)
        self._passed = []
        return self._pair

    def _at_first(self):
        """The nodes of both marks, told by the beginning of their own block."""
        block, counts, marks = self._begin
        passage = self._course.passages[block]
        worths = passage.worths(self._course.numbers, self._free)

        def simple(mark):
            return worths[passage.number(mark, counts)]

        return [node_of(mark, simple, self._free) for mark in marks]

    def _ahead(self, pair, block):
        """The nodes of what two nodes are behind a block, told by its beginning."""
        passage = self._course.passages[block]
        worths = passage.worths(self._course.numbers, self._free)

        def simple(number):
            return worths[passage.behind[number]] if number < len(passage.behind) else number

        return self._rebuilt(pair, simple, self._free)

    def _are_equal(self, pair, graph):
        """Whether two nodes are equal by a graph."""
        spots = graph[1]
        if pair[0] < len(spots) and pair[1] < len(spots):
            return spots[pair[0]] == spots[pair[1]]
        overlay = Overlay(numbered(graph[0]))

        def simple(number):
            return spots[number] if number < len(spots) else overlay.opened()

        one, other = self._rebuilt(pair, simple, overlay)
        return one == other

    def _rebuilt(self, pair, simple, pile):
        """What two nodes are, with a function for those that are no operations, and a pile for operations."""
        worths = {}
        for number in self._needed(pair):
            part = self._free.nodes[number]
            if part == OPEN:
                worths[number] = simple(number)
            else:
                worths[number] = pile.given(part[1], tuple([worths[operand] for operand in part[2]]))
        return [worths[number] for number in pair]

    def _needed(self, pair):
        """The ascending list of two nodes and all those of which they are built."""
        found = {}
        todo = list(pair)
        while todo:
            number = todo.pop()
            if number not in found:
                found[number] = True
                if self._free.nodes[number] != OPEN:
                    todo.extend(self._free.nodes[number][2])
        return sorted([int(number) for number in found])


def _first_unlike(changes, trace):
    """The number of the first round in which the marks are unlike; in the last one they are."""
    low, high = 0, len(changes) - 1
    while low < high:
        middle = (low + high) // 2
        if trace.is_unlike(changes[middle][1]):
            high = middle
        else:
            low = middle + 1
    return changes[low][0]


def _unlike_ahead(ahead, newest, trace):
    """The first of some blocks at which the marks are unlike by its newest graph: go back to it.

    At one of them they are, so that the last one need not be asked.
    """
    for block in ahead[:-1]:
        if trace.try_back(block, newest[block]):
            return block
    trace.go_back(ahead[-1])
    return ahead[-1]
