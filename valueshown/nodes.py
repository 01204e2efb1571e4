"""The nodes of shapes, apart from the marks that stand at them.

What is called a graph here is a tuple (nodes, spots): the nodes as in the value
of a shape, and the index of a node for each of some marks, in their order. The
operands of a node stand ahead of it, and nodes that are not open are alike only
if they are one. A graph is neat if its nodes are all needed, and in the order in
which they are first met.
"""

from valueshown.errors import TooMany

MOST_NODES = 20000
OPEN = ("open",)
NOTHING = ("nothing",)


class Known:
    """What is known of some marks, a tuple: the neat graph at whose nodes they stand.

    Of such the package makes its shapes: what it has led to itself need not be looked through again.
    """

    def __init__(self, marks, graph):
        self.marks = marks
        self.graph = graph


class Pile:
    """Nodes to which others are added: operations that are not there so far, and open ones."""

    def __init__(self, nodes):
        self.nodes = list(nodes)
        self.numbers = numbered(self.nodes)

    def given(self, operation, operands):
        """The index of the node for an operation and the tuple of its operands' indexes."""
        part = ("op", operation, operands)
        if part not in self.numbers:
            self.numbers[part] = len(self.nodes)
            self.nodes.append(part)
        return self.numbers[part]

    def opened(self):
        """The index of a new open node."""
        self.nodes.append(OPEN)
        return len(self.nodes) - 1


class Overlay:
    """Operations that need not be nodes: the dict from nodes to their indexes stays as it is."""

    def __init__(self, numbers):
        self._numbers = numbers
        self._more = {}

    def given(self, operation, operands):
        """The index of the node for an operation, or a number that no node has."""
        part = ("op", operation, operands)
        if part in self._numbers:
            return self._numbers[part]
        return self._more.setdefault(part, -1 - len(self._more))

    def opened(self):
        """A number that nothing else has."""
        return self._more.setdefault(len(self._more), -1 - len(self._more))


def common(one, other):
    """The neat graph by which marks hold if they do by both of two graphs.

    Each node of it is a pair of theirs, and is built only if a mark comes to it.
    """
    nodes, others = one[0], other[0]
    pairs = list(zip(one[1], other[1]))
    found = {}
    parts = []
    for first in pairs:
        todo = [first]
        while todo:
            pair = todo.pop()
            if pair in found:
                continue
            part, beside = nodes[pair[0]], others[pair[1]]
            if part[0] == "op" and part[:2] == beside[:2] and len(part[2]) == len(beside[2]):
                operands = list(zip(part[2], beside[2]))
                missing = [operand for operand in operands if operand not in found]
                if missing:
                    todo.append(pair)
                    todo.extend(missing[::-1])
                    continue
                part = ("op", part[1], tuple([found[operand] for operand in operands]))
            elif part != beside:
                part = OPEN
            if len(parts) == MOST_NODES:
                raise TooMany(MOST_NODES)
            found[pair] = len(parts)
            parts.append(part)
    return (tuple(parts), tuple([found[pair] for pair in pairs]))


def neat(graph):
    """A graph with its needed nodes alone, in the order in which they are first met."""
    nodes = graph[0]
    found = {}
    parts = []
    for first in graph[1]:
        todo = [first]
        while todo:
            spot = todo.pop()
            if spot in found:
                continue
            part = nodes[spot]
            if part[0] == "op":
                missing = [operand for operand in part[2] if operand not in found]
                if missing:
                    todo.append(spot)
                    todo.extend(missing[::-1])
                    continue
                part = ("op", part[1], tuple([found[operand] for operand in part[2]]))
            if len(parts) == MOST_NODES:
                raise TooMany(MOST_NODES)
            found[spot] = len(parts)
            parts.append(part)
    return (tuple(parts), tuple([found[spot] for spot in graph[1]]))


def is_within(one, other):
    """Whether a graph fits only values that a neat one for the same marks fits."""
    nodes, others = one[0], other[0]
    at = {}
    for spot, beside in zip(one[1], other[1]):
        if at.setdefault(beside, spot) != spot:
            return False
    # From the last node on, each one is met behind those that it is an operand of.
    for beside in reversed(range(len(others))):
        wanted = others[beside]
        if wanted == OPEN:
            continue
        part = nodes[at[beside]]
        if wanted[0] != "op":
            if part != wanted:
                return False
            continue
        if part[:2] != wanted[:2] or len(part[2]) != len(wanted[2]):
            return False
        for operand, spot in zip(wanted[2], part[2]):
            if at.setdefault(operand, spot) != spot:
                return False
    return True


def numbered(nodes):
    """The dict from the nodes that are not open to their indexes."""
    return {part: index for index, part in enumerate(nodes) if part != OPEN}
