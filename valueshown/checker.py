"""The checker: it judges papers, whoever wrote them, by their rows and ways alone.

It does not search: it plays one way, or goes through each block once.
"""

from valueshown.errors import BadShape, BadWay, TooMany
from valueshown.leads import led, led_to
from valueshown.shapes import Shape, marks_of
from valueshown.tracks import Track
from valueshown.verdicts import mark_of
from valueshown.words import is_among, is_return


def lets(table, stop, name, value):
    """Whether any value is a paper for what a table shows for a name at a stop."""
    entry = table.entry(stop, name)
    word, told = _parts(value)
    if entry is None or not is_among(word, ("true", "late", "unlike")):
        return False
    if word == "unlike":
        track = _track(table.made, told)
        if track is None or track.way[-1] != stop[0]:
            return False
        return track.shown(stop, entry) != track.named(table.made.label(stop))[name]
    kind = "name" if word == "true" else "late"
    return _lets_rows(table.made, told, [(stop, mark_of(entry), (kind, name))])


def lets_table(table, value):
    """Whether any value is a paper that all that a table shows is true."""
    word, told = _parts(value)
    if not is_among(word, ("truthful",)):
        return False
    wanted = [(stop, mark_of(entry), ("name", name)) for stop, name, entry in table.rows()]
    return _lets_rows(table.made, told, wanted)


def lets_returns(made, value):
    """Whether any value is a paper about the returns of a made code."""
    word, told = _parts(value)
    if not is_among(word, ("returns", "unlike")):
        return False
    if word == "unlike":
        track = _track(made, told)
        returned = None if track is None else track.returned()
        return returned is not None and returned[0] != returned[1]
    return _lets_rows(made, told, _returns(made))


def _parts(value):
    """The word of any value that may be a paper, and what it is told by."""
    if not isinstance(value, tuple) or len(value) != 2:
        return (None, None)
    return value


def _track(made, value):
    """Both programs along any value, or None if it is no way."""
    if not isinstance(value, list):
        return None
    try:
        return Track(made, value)
    except BadWay:
        return None


def _returns(made):
    """The list of the tuples (stop, one mark, other mark) for the ends of the blocks with a return."""
    found = []
    for block in made.source.blocks():
        end = made.source.end(block)
        if is_return(end):
            found.append((made.stops(block)[-1], ("name", end[1]), ("place", made.returned(block))))
    return found


def _lets_rows(made, rows, wanted):
    """Whether any value is right rows, by which two marks hold at each stop that is wanted."""
    shapes = _shapes(made, rows)
    if shapes is None:
        return False
    try:
        return _lead_on(made, shapes) and _hold(made, shapes, wanted)
    except TooMany:
        return False


def _shapes(made, rows):
    """The dict from the blocks to which ways lead to their shapes, or None if any value does not tell them."""
    reached = made.source.reached()
    if not isinstance(rows, list) or len(rows) != len(reached):
        return None
    marks = marks_of(made)
    shapes = {}
    for row in rows:
        if not isinstance(row, tuple) or len(row) != 2 or not is_among(row[0], reached):
            return None
        shape = _shape(marks, row[1])
        if shape is None or row[0] in shapes:
            return None
        shapes[row[0]] = shape
    return shapes


def _shape(marks, value):
    """The shape with any value, or None if it is none for some marks."""
    if not isinstance(value, tuple):
        return None
    try:
        shape = Shape(value)
    except BadShape:
        return None
    return shape if shape.all_marks() == marks else None


def _lead_on(made, shapes):
    """Whether the shapes fit the beginning, and what the rows of each block lead to."""
    source = made.source
    if not Shape.opening(made) <= shapes[source.blocks()[0]]:
        return False
    for block in shapes:
        behind = led(shapes[block], made, block)
        if not all([behind <= shapes[following] for following in source.nexts(block)]):
            return False
    return True


def _hold(made, shapes, wanted):
    """Whether two marks hold at each stop that is wanted; where no way leads, all do."""
    at = {}
    for stop, one, other in wanted:
        if stop[0] not in shapes:
            continue
        if stop not in at:
            at[stop] = led_to(shapes[stop[0]], made, stop)
        if not at[stop].holds(one, other):
            return False
    return True
