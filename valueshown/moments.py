"""What stands at one stop, and which names it tells."""

from valueshown.standing import counts_at


class Moment:
    """The nodes at which names and places stand at one stop, of a graph for some marks."""

    def __init__(self, marks, graph):
        self._nodes = graph[0]
        self._spots = {mark: spot for mark, spot in zip(marks, graph[1])}
        self._homes = {}
        for mark, spot in self._spots.items():
            if mark[0] == "place":
                self._homes.setdefault(spot, []).append(mark[1])

    def tells(self, entry, name):
        """Whether what an entry shows is always the value of a name."""
        spot = self._spots[("name", name)]
        if not isinstance(entry, tuple):
            return self._spots[("place", entry)] == spot
        # Nodes are alike only if they are one, so that there is no other one for this operation.
        operands = tuple([self._spots[("place", place)] for place in entry[1:]])
        return self._nodes[spot] == ("op", entry[0], operands)

    def tellings(self, name):
        """The list of the tellings that tell a name."""
        found, operation, operands = self.told_from(name)
        if operation is None:
            return found
        shown = [(operation,)]
        for places in operands:
            shown = [(*entry, place) for entry in shown for place in places]
        return found + shown

    def first_telling(self, name):
        """The first telling that tells a name, or None."""
        found = self.tellings(name)
        return found[0] if found else None

    def told_from(self, name):
        """The tuple of the places that tell a name, and of an operation that does, with the places for each operand.

        The operation is None if there is none. Each node that is an operation comes
        from a row, so that all operations of places that are equal to it are tellings.
        """
        spot = self._spots[("name", name)]
        part = self._nodes[spot]
        if part[0] != "op":
            return (self._places_at(spot), None, [])
        return (self._places_at(spot), part[1], [self._places_at(operand) for operand in part[2]])

    def _places_at(self, spot):
        """The list of the places that stand at a node, in the order of the marks."""
        return list(self._homes.get(spot, []))


def moment_at(standing, stop):
    """What stands at a stop of a block to which ways lead."""
    graph = standing.rounds.graph_at(stop[0], counts_at(standing.made, stop))
    return Moment(standing.rounds.course.marks, graph)
