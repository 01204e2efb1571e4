"""The nodes of shapes, apart from the marks that stand at them.

What is called a graph here is a tuple (nodes, spots): the nodes as in the value
of a shape, and the index of a node for each of some marks, in their order. The
operands of a node stand ahead of it. A graph is neat if its nodes are alike only
if they are one, are all needed, and are in the order in which they are first met.
"""

from valueshown.errors import TooMany

MOST_NODES = 20000
OPEN = ("open",)
NOTHING = ("nothing",)


def are_alike(part, other):
    """Whether two nodes are the same operation, with as many operands."""
    return part[0] == "op" and part[:2] == other[:2] and len(part[2]) == len(other[2])


def common(one, other):
    """The neat graph by which marks hold if they do by both of two graphs.

    Each node of it is a pair of theirs, and is built only if a mark comes to it.
    """
    nodes, others = one[0], other[0]
    pairs = list(zip(one[1], other[1]))
    found = {}
    parts = []
    for first in pairs:
        todo = [first]
        while todo:
            pair = todo.pop()
            if pair in found:
                continue
            part, beside = nodes[pair[0]], others[pair[1]]
            operands = list(zip(part[2], beside[2])) if are_alike(part, beside) else []
            missing = [operand for operand in operands if operand not in found]
            if missing:
                todo.append(pair)
                todo.extend(missing[::-1])
                continue
            if len(parts) == MOST_NODES:
                raise TooMany(MOST_NODES)
            found[pair] = len(parts)
            parts.append(_common_node(part, beside, tuple([found[operand] for operand in operands])))
    return (tuple(parts), tuple([found[pair] for pair in pairs]))


def neat(graph):
    """A graph with its needed nodes alone, in the order in which they are first met."""
    return common(graph, graph)


def is_within(one, other):
    """Whether a neat graph fits only values that another one for the same marks fits."""
    nodes, others = one[0], other[0]
    at = {}
    for spot, beside in zip(one[1], other[1]):
        if at.setdefault(beside, spot) != spot:
            return False
    # From the last node on, each one is met behind those that it is an operand of.
    for beside in reversed(range(len(others))):
        part, wanted = nodes[at[beside]], others[beside]
        if wanted != OPEN and not _is_such(part, wanted):
            return False
        operands = list(zip(wanted[2], part[2])) if wanted[0] == "op" else []
        for operand, spot in operands:
            if at.setdefault(operand, spot) != spot:
                return False
    return True


def numbered(nodes):
    """The dict from the nodes that are not open to their indexes."""
    numbers = {}
    for index, part in enumerate(nodes):
        if part != OPEN:
            numbers[part] = index
    return numbers


def _is_such(part, wanted):
    """Whether a node is what a node that is not open wants, but for the operands."""
    return part == NOTHING if wanted == NOTHING else are_alike(wanted, part)


def _common_node(part, beside, operands):
    """The node for two, with the indexes of the operands for theirs."""
    if are_alike(part, beside):
        return ("op", part[1], operands)
    return NOTHING if part == beside == NOTHING else OPEN
