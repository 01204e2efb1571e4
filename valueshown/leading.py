"""What rows do to the nodes at which marks stand, row by row."""

from valueshown.nodes import Pile
from valueshown.words import kept, reads, sets


class Board:
    """The nodes at which marks stand, while rows are done.

    The positions are a dict from marks to indexes of `spots`, which tell their
    nodes. Places may have a kind of their own, for a made code beside another.
    """

    def __init__(self, graph, positions):
        self.pile = Pile(graph[0])
        self.spots = list(graph[1])
        self._positions = positions

    def led_graph(self):
        """The graph as it is now; it need not be neat, and may have nodes too many."""
        return (self.pile.nodes, self.spots)

    def do_row(self, row):
        """Do a row of a source."""
        given = self._given(row, "name")
        at = self._positions[("name", sets(row))]
        self.spots[self._positions[("late", sets(row))]] = self.spots[at]
        self.spots[at] = given

    def do_made_row(self, row, kind):
        """Do a row of a made code, whose places have a kind."""
        given = self._given(row, kind)
        if row[0] == "call":
            for mark, at in self._positions.items():
                if mark[0] == kind and mark[1] != sets(row) and mark[1] not in kept(row):
                    self.spots[at] = self.pile.opened()
        self.spots[self._positions[(kind, sets(row))]] = given

    def _given(self, row, kind):
        """The node of what a row sets."""
        operands = [self.spots[self._positions[(kind, word)]] for word in reads(row)]
        if row[0] == "copy":
            return operands[0]
        return self.pile.given(row[2], tuple(operands))
