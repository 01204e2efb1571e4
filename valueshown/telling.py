"""What could be told: by which places, and operations of them, names can be shown as they are."""

from valueshown.errors import BadStop, UnknownName
from valueshown.moments import moment_at
from valueshown.standing import Standing
from valueshown.words import ascending, is_among, reads


def tellings(made):
    """The list of all tellings of a made code: the places, then the operations of places, ascending."""
    places = made.places()
    found = list(places)
    for operation, counts in _operations(made).items():
        if 0 in counts:
            found.append((operation,))
        for place in places:
            if 1 in counts:
                found.append((operation, place))
            if 2 in counts:
                found.extend([(operation, place, other) for other in places])
    return found


def is_asked(made, stop):
    """Whether a stop is one of a block to which ways lead."""
    made.label(stop)
    return stop[0] in made.source.reached()


def told_by(made, stop, name):
    """The list of the tellings that tell a name at an asked stop."""
    if not is_asked(made, stop):
        raise BadStop(stop)
    if not is_among(name, made.source.names()):
        raise UnknownName(name)
    return moment_at(Standing(made), stop).tellings(name)


def can_be_told(made, stop, name):
    """Whether some telling tells a name at an asked stop."""
    return len(told_by(made, stop, name)) > 0


def gone(table):
    """The list of the tuples (stop, name) of asked stops that a table does not show."""
    found = []
    for stop in asked_stops(table.made):
        shown = table[stop]
        found.extend([(stop, name) for name in table.made.source.names() if name not in shown])
    return found


def needless(table):
    """The list of the tuples (stop, name, first telling) of what a table does not show, but could tell."""
    return needless_by(Standing(table.made), table)


def needless_by(standing, table):
    """The same, by what stands in the table's made code."""
    asked = asked_moments(standing)
    found = [(stop, name, asked[stop].first_telling(name)) for stop, name in gone(table)]
    return [row for row in found if row[2] is not None]


def asked_moments(standing):
    """The dict from the asked stops, in the order of all stops, to what stands there."""
    return {stop: moment_at(standing, stop) for stop in asked_stops(standing.made)}


def asked_stops(made):
    """The list of the asked stops, in the order of all stops."""
    reached = made.source.reached()
    return [stop for stop in made.all_stops() if stop[0] in reached]


def _operations(made):
    """The dict from the operations in rows, ascending, to dicts of the numbers of operands that they have there."""
    counts = {}
    for block in made.source.blocks():
        for row in made.source.rows(block) + made.rows(block):
            if row[0] != "copy":
                counts.setdefault(row[2], {})[len(reads(row))] = True
    return {operation: counts[operation] for operation in ascending(list(counts))}
