"""Stops that may be left out: the longest steppings, at each stop of which some names can be told."""

from valueshown.errors import UnknownBlock, UnknownName
from valueshown.moments import moment_at
from valueshown.standing import Standing
from valueshown.words import is_among, is_index


def longest_stepping(made, block, names):
    """A longest stepping of a block for some names, the first one of several."""
    _check_block(made, block)
    _check_names(made, names)
    return _longest(made, block, _telling_stops(Standing(made), block, names))


def is_stepping(made, block, names, value):
    """Whether any value is a list that is a stepping of a block for some names."""
    _check_block(made, block)
    _check_names(made, names)
    if not isinstance(value, list):
        return False
    labels = made.labels(block)
    if not all([is_index(index, len(labels) - 1) for index in value]):
        return False
    if not all([one < other and labels[one] < labels[other] for one, other in zip(value, value[1:])]):
        return False
    fitting = _telling_stops(Standing(made), block, names)
    return all([index in fitting for index in value])


def steppings(made, names):
    """The dict from the blocks to which ways lead, in the order of the source, to their longest steppings."""
    _check_names(made, names)
    return _steppings_by(Standing(made), names)


def stepped(table, names):
    """For each stop of the longest steppings, the stop and the dict from the names to what tells them there."""
    _check_names(table.made, names)
    standing = Standing(table.made)
    for block, indexes in _steppings_by(standing, names).items():
        for index in indexes:
            stop = (block, index)
            moment = moment_at(standing, stop)
            yield stop, {name: _shown(table, moment, stop, name) for name in names}


def _steppings_by(standing, names):
    """The longest steppings for some names, by what stands."""
    made = standing.made
    reached = made.source.reached()
    return {
        block: _longest(made, block, _telling_stops(standing, block, names))
        for block in made.source.blocks()
        if block in reached
    }


def _shown(table, moment, stop, name):
    """What tells a name at a stop: the table's own entry if it does, otherwise the first telling."""
    entry = table.entry(stop, name)
    if entry is not None and moment.tells(entry, name):
        return entry
    return moment.first_telling(name)


def _check_block(made, block):
    """Raise an error for any value that is no block to which a way leads."""
    if not is_among(block, made.source.reached()):
        raise UnknownBlock(block)


def _check_names(made, names):
    """Raise an error for the first of some values that is no name of the source."""
    known = made.source.names()
    for name in names:
        if not is_among(name, known):
            raise UnknownName(name)


def _telling_stops(standing, block, names):
    """The rising list of the indexes of a block's stops at which all of some names can be told."""
    found = []
    for stop in standing.made.stops(block):
        moment = moment_at(standing, stop)
        if all([moment.first_telling(name) is not None for name in names]):
            found.append(stop[1])
    return found


def _longest(made, block, fitting):
    """The first one of the longest lists of some rising indexes whose labels rise, too."""
    labels = made.labels(block)
    # From the last index on: the first one of the longest lists that begin with it.
    begun = {}
    for index in fitting[::-1]:
        further = [begun[other] for other in fitting if other > index and labels[other] > labels[index]]
        begun[index] = [index, *_first_longest(further)]
    return _first_longest([begun[index] for index in fitting])


def _first_longest(lists):
    """The first one of the longest of some lists, or an empty one."""
    longest = []
    for part in lists:
        if len(part) > len(longest):
            longest = part
    return longest
