"""Made codes: programs with the blocks of a source whose rows set places."""

from valueshown.errors import BadInput, BadLabels, BadRow, BadShown, BadStop, UnknownBlock, UnknownName
from valueshown.words import (
    are_unlike_names,
    ascending,
    is_among,
    is_index,
    is_made_row,
    is_name,
    is_return,
    words_in,
)

MOST_MADE_ROWS = 16


class Made:
    """A made code for a source, with the labels of its stops."""

    def __init__(self, source, blocks, labels, lies, *, entries=()):
        _check_blocks(source, blocks)
        _check_codes(source, blocks)
        _check_labels(source, blocks, labels)
        _check_lies(source, lies)
        _check_entries(lies, entries)
        self.source = source
        self.entries = entries
        self._codes = {block: blocks[block] for block in source.blocks()}
        self._rows = {block: _rows_of(blocks[block]) for block in source.blocks()}
        self._labels = {block: labels[block] for block in source.blocks()}
        self._lies = {name: lies[name] for name in source.inputs}
        self._places = _places_in(self._codes, self._lies, entries)

    def __eq__(self, other):
        return (
            isinstance(other, Made)
            and self.source == other.source
            and self._codes == other._codes
            and self._labels == other._labels
            and self._lies == other._lies
            and self.entries == other.entries
        )

    def rows(self, block):
        """The tuple of the rows of a block, without the return."""
        self._code(block)
        return self._rows[block]

    def returned(self, block):
        """The place that a block returns, or None."""
        return _returned_by(self._code(block))

    def labels(self, block):
        """The tuple of the labels of a block's stops."""
        self._code(block)
        return self._labels[block]

    def stops(self, block):
        """The list of the stops of a block."""
        return [(block, index) for index in range(len(self.rows(block)) + 1)]

    def all_stops(self):
        """The list of the stops of all blocks, in the order of the source."""
        return [stop for block in self.source.blocks() for stop in self.stops(block)]

    def is_stop(self, value):
        """Whether any value is a stop."""
        if not isinstance(value, tuple) or len(value) != 2 or not is_among(value[0], self._labels):
            return False
        return is_index(value[1], len(self._labels[value[0]]) - 1)

    def label(self, stop):
        """The label of a stop."""
        self._check_stop(stop)
        return self._labels[stop[0]][stop[1]]

    def place_of(self, name):
        """The place in which an input lies at the beginning."""
        if not is_among(name, self._lies):
            raise UnknownName(name)
        return self._lies[name]

    def places(self):
        """The ascending list of all places."""
        return list(self._places)

    def with_rows(self, block, rows, labels):
        """The made code with other rows and labels of one block."""
        self._code(block)
        codes = {**self._codes, block: rows}
        return Made(self.source, codes, {**self._labels, block: labels}, self._lies, entries=self.entries)

    def with_copy(self, stop, place, spare):
        """The made code with one more row ahead of a stop, which copies a place to a spare one.

        Raises BadRow(block), as the class does, if the block has as many rows as it may.
        """
        self._check_stop(stop)
        if not is_name(spare) or spare in self._places:
            raise BadShown(spare)
        if not is_among(place, self._places):
            raise BadShown(place)
        block, index = stop
        code, labels = self._codes[block], self._labels[block]
        rows = code[:index] + (("copy", spare, place),) + code[index:]
        return self.with_rows(block, rows, labels[:index] + (labels[index],) + labels[index:])

    @staticmethod
    def plain(source):
        """The made code whose places are the names, and whose rows are the source's."""
        blocks = {}
        labels = {}
        for block in source.blocks():
            rows, end = source[block]
            blocks[block] = rows + (end,) if is_return(end) else rows
            labels[block] = tuple(range(len(rows) + 1))
        return Made(source, blocks, labels, {name: name for name in source.inputs})

    def _code(self, block):
        """The rows of a block, with the return if there is one."""
        if block not in self.source:
            raise UnknownBlock(block)
        return self._codes[block]

    def _check_stop(self, stop):
        """Raise an error for any value that is no stop."""
        if not self.is_stop(stop):
            raise BadStop(stop)


def _returned_by(code):
    """The place that the rows of a block return behind them, or None."""
    if code and is_return(code[-1]):
        return code[-1][1]
    return None


def _rows_of(code):
    """The rows of a block, of which the return is none."""
    if _returned_by(code) is None:
        return code
    return code[:-1]


def _places_in(codes, lies, entries):
    """The tuple of all places, ascending."""
    places = list(lies.values()) + list(entries)
    for code in codes.values():
        for row in _rows_of(code):
            places.extend(words_in(row))
        if _returned_by(code) is not None:
            places.append(_returned_by(code))
    return tuple(ascending(places))


def _check_blocks(source, blocks):
    """Raise an error if the blocks are not those of the source."""
    for block in source.blocks():
        if block not in blocks:
            raise UnknownBlock(block)
    for block in blocks:
        if block not in source:
            raise UnknownBlock(block)


def _check_codes(source, blocks):
    """Raise an error for the first block whose rows are not right."""
    for block in source.blocks():
        if not _is_code(blocks[block], is_return(source.end(block))):
            raise BadRow(block)


def _is_code(value, returns):
    """Whether any value is a tuple of rows, and not of too many, with a return behind them if there is to be one."""
    if not isinstance(value, tuple):
        return False
    rows = _rows_of(value)
    if (len(rows) < len(value)) != returns or len(rows) > MOST_MADE_ROWS:
        return False
    return all([is_made_row(row) for row in rows])


def _check_labels(source, blocks, labels):
    """Raise an error for the first block of the source whose labels are not right."""
    for block in source.blocks():
        if block not in labels:
            raise BadLabels(block)
        if not _are_labels(labels[block], len(_rows_of(blocks[block])) + 1, len(source.rows(block))):
            raise BadLabels(block)


def _are_labels(value, many, last):
    """Whether any value is a tuple of so many labels, the last of which is that of the end."""
    if not isinstance(value, tuple) or len(value) != many:
        return False
    return all([is_index(label, last) for label in value]) and value[-1] == last


def _check_lies(source, lies):
    """Raise an error if the inputs, and they alone, do not lie in unlike places."""
    places = []
    for index, name in enumerate(source.inputs):
        place = lies.get(name)
        if not is_name(place) or place in places:
            raise BadInput(index)
        places.append(place)
    for name in lies:
        if not is_among(name, source.inputs):
            raise BadInput(None)


def _check_entries(lies, entries):
    """Raise an error if the entries are not a tuple of unlike places in which no input lies."""
    if not are_unlike_names(entries):
        raise BadShown(entries)
    for place in lies.values():
        if place in entries:
            raise BadShown(entries)
