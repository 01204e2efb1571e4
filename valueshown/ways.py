"""Ways: from the first block on, through the next blocks that the ends tell."""

from valueshown.errors import BadWay, UnknownBlock
from valueshown.words import is_among, is_list


def check_way(source, way):
    """Raise an error if any value is no way of a source."""
    if not is_list(way) or len(way) == 0:
        raise BadWay(None)
    fitting = source.blocks()[:1]
    for index, block in enumerate(way):
        if not is_among(block, fitting):
            raise BadWay(index)
        fitting = source.nexts(block)


def ways_to(source, block, most):
    """The list of all ways to a block with at most so many blocks."""
    if block not in source:
        raise UnknownBlock(block)
    found = []
    longest = [source.blocks()[:1]]
    for _ in range(most):
        found.extend([way for way in longest if way[-1] == block])
        longest = [[*way, further] for way in longest for further in source.nexts(way[-1])]
    return found


def shortest(source, block):
    """The first of the shortest ways to a block, or None."""
    if block not in source:
        raise UnknownBlock(block)
    found = {}
    todo = [source.blocks()[:1]]
    done = 0
    while done < len(todo):
        way = todo[done]
        done += 1
        if way[-1] not in found:
            found[way[-1]] = way
            todo.extend([[*way, further] for further in source.nexts(way[-1])])
    return found.get(block)
