"""What stands at blocks, round by round: for ways of one more block in each round."""

from valueshown.marks import node_of
from valueshown.nodes import Overlay, Pile, common, is_within, neat


class Rounds:
    """For each block to which ways lead, the graphs that stand there for all ways of at most so many blocks.

    `listed` has a dict for each round, from the blocks to their graphs where they
    are not as in the round ahead; `changes` the same for each block: a list of the
    tuples (number of the round, counted from 1 on, graph).
    """

    def __init__(self, course):
        self.course = course
        self.listed = _rounds(course)
        self.changes = _by_block(self.listed)
        self._piles = {}
        self._worths = {}
        for block, changes in self.changes.items():
            nodes, spots = changes[-1][1]
            self._piles[block] = Pile(nodes)
            self._worths[block] = course.passages[block].worths(spots, self._piles[block])

    def up_to(self, block, most):
        """The graph for all ways of at most so many blocks to a block, or None if there is none."""
        changes = self.changes.get(block, [])
        low, high = 0, len(changes)
        while low < high:
            middle = (low + high) // 2
            if changes[middle][0] <= most:
                low = middle + 1
            else:
                high = middle
        return changes[low - 1][1] if low > 0 else None

    def last(self, block):
        """The graph that stands at a block for ways of any length, or None."""
        return self.up_to(block, len(self.listed))

    def graph_at(self, block, counts):
        """The graph that stands where so many rows of each lane have been done in a block; it need not be neat."""
        return (self._piles[block].nodes, [self.spot(block, counts, mark) for mark in self.course.marks])

    def spot(self, block, counts, mark):
        """The node of that graph at which a plain mark stands."""
        return self._worths[block][self.course.passages[block].number(mark, counts)]

    def are_always_equal(self, block, counts, one, other):
        """Whether two marks are equal on all ways to a block, where so many rows of each lane have been done."""
        if block not in self._worths:
            return True
        if one[0] != "op" and other[0] != "op":
            return self.spot(block, counts, one) == self.spot(block, counts, other)

        def simple(mark):
            return self.spot(block, counts, mark)

        overlay = Overlay(self._piles[block].numbers)
        return node_of(one, simple, overlay) == node_of(other, simple, overlay)


def _rounds(course):
    """The list of the dicts from blocks to their graphs, for each round those that are not as in the one ahead."""
    newest = {course.source.blocks()[0]: course.first_graph}
    known = {}
    rounds = []
    while newest:
        rounds.append(newest)
        known = {**known, **newest}
        newest = _further(course, known, newest)
    return rounds


def _further(course, known, newest):
    """The dict from the blocks to which the newest graphs lead more than is known there to the graphs behind that."""
    further = {}
    for block, graph in newest.items():
        led = course.passages[block].led(graph)
        for following in course.source.nexts(block):
            earlier = further.get(following, known.get(following))
            if earlier is None:
                further[following] = neat(led)
            elif not is_within(led, earlier):
                further[following] = common(earlier, led)
    return further


def _by_block(rounds):
    """The dict from blocks to the lists of the tuples (number of the round, graph)."""
    changes = {}
    for number, graphs in enumerate(rounds, 1):
        for block, graph in graphs.items():
            changes.setdefault(block, []).append((number, graph))
    return changes
