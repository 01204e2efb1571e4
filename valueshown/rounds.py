"""What stands at blocks, round by round: for ways of one more block in each round."""

from valueshown.expressions import Expressions
from valueshown.leading import led_graph
from valueshown.nodes import common, neat, numbered
from valueshown.shapes import marks_of, opening_graph


class Rounds:
    """For each block to which ways lead, the graphs that stand there for all ways of at most so many blocks."""

    def __init__(self, made):
        self.made = made
        self.marks = tuple(marks_of(made))
        rounds = _rounds(made, self.marks)
        self.many = len(rounds)
        self._changes = _by_block(rounds)

    def last(self, block):
        """The graph that stands at a block for ways of any length, or None."""
        return self.up_to(block, self.many)

    def up_to(self, block, most):
        """The graph for all ways of at most so many blocks, or None if there is none."""
        changes = self._changes.get(block, [])
        low, high = 0, len(changes)
        while low < high:
            middle = (low + high) // 2
            if changes[middle][0] <= most:
                low = middle + 1
            else:
                high = middle
        return changes[low - 1][1] if low > 0 else None

    def are_always_equal(self, stop, one, other):
        """Whether two marks are equal at a stop on all ways to its block."""
        expressions = Expressions()
        graph = self.last(stop[0])
        return graph is None or self._are_equal(graph, expressions, self._pair(expressions, stop, one, other))

    def unlike_way(self, stop, one, other):
        """A shortest way to the block of a stop on which two marks are unlike there, or None."""
        expressions = Expressions()
        pair = self._pair(expressions, stop, one, other)
        most = self._first_unlike(stop[0], expressions, pair)
        if most is None:
            return None
        way = [stop[0]]
        for many in reversed(range(1, most)):
            block, pair = self._one_back(way[-1], many, expressions, pair)
            way.append(block)
        return way[::-1]

    def _pair(self, expressions, stop, one, other):
        """Two marks at a stop, told by what is at the beginning of its block."""
        pair = (expressions.of(one), expressions.of(other))
        return self._ahead(expressions, pair, stop[0], self.made.label(stop), stop[1])

    def _ahead(self, expressions, pair, block, label, index):
        """Two expressions behind so many rows of a block, told by what is at its beginning."""
        rows, made_rows = self.made.source.rows(block)[:label], self.made.rows(block)[:index]
        return expressions.ahead(pair, self.marks, rows, made_rows)

    def _are_equal(self, graph, expressions, pair):
        """Whether two expressions are equal by a graph."""
        spots = {mark: spot for mark, spot in zip(self.marks, graph[1])}
        return expressions.are_equal(pair, numbered(graph[0]), spots)

    def _first_unlike(self, block, expressions, pair):
        """The least number of blocks of a way on which two expressions are unlike at a block, or None."""
        changes = self._changes.get(block, [])
        low, high = 0, len(changes)
        while low < high:
            middle = (low + high) // 2
            if self._are_equal(changes[middle][1], expressions, pair):
                low = middle + 1
            else:
                high = middle
        return changes[low][0] if low < len(changes) else None

    def _one_back(self, block, many, expressions, pair):
        """A block ahead of one where two expressions are unlike on a way of so many blocks, and the two there.

        What stands at a block is common to what all blocks ahead of it lead to,
        so that there is one if there is such a way, and the last one need not be asked.
        """
        ahead, earlier = block, pair
        for ahead in self._blocks_ahead(block, many):
            rows, made_rows = self.made.source.rows(ahead), self.made.rows(ahead)
            earlier = self._ahead(expressions, pair, ahead, len(rows), len(made_rows))
            if not self._are_equal(self.up_to(ahead, many), expressions, earlier):
                break
        return (ahead, earlier)

    def _blocks_ahead(self, block, many):
        """The list of the blocks ahead of one to which ways of at most so many blocks lead."""
        return [
            ahead
            for ahead in self._changes
            if block in self.made.source.nexts(ahead) and self.up_to(ahead, many) is not None
        ]


def _rounds(made, marks):
    """The list of the dicts from blocks to their graphs, for each round those that are not as in the one ahead."""
    newest = {made.source.blocks()[0]: opening_graph(made, marks)}
    known = {}
    rounds = []
    while newest:
        rounds.append(newest)
        known = {**known, **newest}
        further = {}
        for block in newest:
            graph = led_graph(known[block], marks, made.source.rows(block), made.rows(block))
            for following in made.source.nexts(block):
                earlier = further.get(following, known.get(following))
                further[following] = neat(graph) if earlier is None else common(earlier, graph)
        newest = {block: graph for block, graph in further.items() if graph != known.get(block)}
    return rounds


def _by_block(rounds):
    """The dict from blocks to the lists of the tuples (number of the round, counted from 1 on, graph)."""
    changes = {}
    for number, graphs in enumerate(rounds, 1):
        for block, graph in graphs.items():
            changes.setdefault(block, []).append((number, graph))
    return changes
