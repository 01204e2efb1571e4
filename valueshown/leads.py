"""What rows lead to from a shape."""

from valueshown.errors import BadRow
from valueshown.leading import led_graph
from valueshown.nodes import neat
from valueshown.shapes import Shape, graph_of, with_marks
from valueshown.words import is_made_row, is_row, sets, words_in


def behind(shape, row):
    """The shape that a row of a source leads to."""
    if not is_row(row):
        raise BadRow(row)
    return _led(shape, (row,), ())


def behind_made(shape, row):
    """The shape that a row of a made code leads to."""
    if not is_made_row(row):
        raise BadRow(row)
    return _led(shape, (), (row,))


def led(shape, made, block):
    """The shape behind all rows of a block, of both programs."""
    return led_to(shape, made, made.stops(block)[-1])


def led_to(shape, made, stop):
    """The shape at a stop, from the beginning of its block."""
    label = made.label(stop)
    block, index = stop
    return _led(shape, made.source.rows(block)[:label], made.rows(block)[:index])


def _led(shape, rows, made_rows):
    """The shape to which rows of both programs lead; raises BadRow(row) if it does not have all marks of a row."""
    for row in rows:
        _check_marks(shape, row, [("name", name) for name in words_in(row)] + [("late", sets(row))])
    for row in made_rows:
        _check_marks(shape, row, [("place", place) for place in words_in(row)])
    marks = shape.all_marks()
    return Shape(with_marks(neat(led_graph(graph_of(shape), marks, rows, made_rows)), marks))


def _check_marks(shape, row, marks):
    """Raise an error for a row if a shape does not have some marks of it."""
    for mark in marks:
        if mark not in shape:
            raise BadRow(row)
