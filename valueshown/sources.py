"""Sources: programs of blocks whose rows set names."""

from valueshown.errors import BadBlock, BadInput, TooMany, UnknownBlock
from valueshown.words import ascending, is_among, is_end, is_list, is_name, is_return, is_row, words_in

MOST_BLOCKS = 8
MOST_ROWS = 6
MOST_INPUTS = 6


class Source:
    """A program of blocks, the first of which is the beginning."""

    def __init__(self, blocks, inputs=()):
        _check_blocks(blocks)
        _check_ends(blocks)
        _check_inputs(inputs)
        self.inputs = tuple(inputs)
        self._blocks = tuple([entry[0] for entry in blocks])
        self._parts = {name: (rows, end) for name, rows, end in blocks}
        self._names = _names_in(blocks, self.inputs)
        self._reached = _reached_from(self)

    def __contains__(self, x):
        return is_among(x, self._parts)

    def __len__(self):
        return len(self._blocks)

    def __getitem__(self, at):
        if not is_among(at, self._parts):
            raise UnknownBlock(at)
        return self._parts[at]

    def __iter__(self):
        raise TypeError("a source cannot be iterated")

    def __eq__(self, other):
        return (
            isinstance(other, Source)
            and self._blocks == other._blocks
            and self._parts == other._parts
            and self.inputs == other.inputs
        )

    def blocks(self):
        """The list of the names of the blocks."""
        return list(self._blocks)

    def rows(self, block):
        """The tuple of the rows of a block."""
        return self[block][0]

    def end(self, block):
        """The end of a block."""
        return self[block][1]

    def nexts(self, block):
        """The list of the next blocks of a block, as they stand in its end."""
        return _blocks_in(self.end(block))

    def names(self):
        """The ascending list of the names."""
        return list(self._names)

    def reached(self):
        """The list of the blocks to which ways lead, by fewest blocks, then as ends lead to them."""
        return list(self._reached)


def _reached_from(source):
    """The tuple of the blocks to which ways lead, each block ahead of those that are first reached from it."""
    found = source.blocks()[:1]
    done = 0
    while done < len(found):
        further = [block for block in source.nexts(found[done]) if block not in found]
        done += 1
        found.extend(further)
    return tuple(found)


def _names_in(blocks, inputs):
    """The tuple of all names, ascending."""
    names = list(inputs)
    for _, rows, end in blocks:
        for row in rows:
            names.extend(words_in(row))
        if is_return(end):
            names.append(end[1])
    return tuple(ascending(names))


def _blocks_in(end):
    """The list of the blocks in an end."""
    if is_return(end):
        return []
    return list(end[1:])


def _check_blocks(blocks):
    """Raise an error if the blocks are none, each seen by itself and its name."""
    if not is_list(blocks):
        raise BadBlock(None)
    names = []
    for index, entry in enumerate(blocks):
        if not _is_block(entry) or entry[0] in names:
            raise BadBlock(index)
        names.append(entry[0])
    if len(names) > MOST_BLOCKS:
        raise TooMany(MOST_BLOCKS)
    if not names:
        raise BadBlock(None)


def _is_block(value):
    """Whether any value is a tuple of a name, right rows and an end."""
    if not isinstance(value, tuple) or len(value) != 3:
        return False
    name, rows, end = value
    return is_name(name) and _are_rows(rows) and is_end(end)


def _are_rows(value):
    """Whether any value is a tuple of rows, and not of too many."""
    return isinstance(value, tuple) and len(value) <= MOST_ROWS and all([is_row(row) for row in value])


def _check_ends(blocks):
    """Raise an error for the first block in the ends that is none."""
    names = [entry[0] for entry in blocks]
    for entry in blocks:
        for block in _blocks_in(entry[2]):
            if block not in names:
                raise UnknownBlock(block)


def _check_inputs(inputs):
    """Raise an error if the inputs are not unlike names, or too many."""
    if not is_list(inputs):
        raise BadInput(None)
    names = []
    for index, name in enumerate(inputs):
        if not is_name(name) or name in names:
            raise BadInput(index)
        names.append(name)
    if len(names) > MOST_INPUTS:
        raise TooMany(MOST_INPUTS)
