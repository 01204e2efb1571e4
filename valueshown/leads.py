"""What rows lead to from a shape."""

from valueshown.errors import BadRow
from valueshown.leading import Board
from valueshown.nodes import Known, neat
from valueshown.shapes import Shape
from valueshown.words import is_made_row, is_row, sets, words_in


def behind(shape, row):
    """The shape that a row of a source leads to."""
    if not is_row(row):
        raise BadRow(row)
    return _led(shape, (row,), ())


def behind_made(shape, row):
    """The shape that a row of a made code leads to."""
    if not is_made_row(row):
        raise BadRow(row)
    return _led(shape, (), (row,))


def led(shape, made, block):
    """The shape behind all rows of a block, of both programs."""
    return _led(shape, made.source.rows(block), made.rows(block))


def led_to(shape, made, stop):
    """The shape at a stop, from the beginning of its block."""
    label = made.label(stop)
    block, index = stop
    return _led(shape, made.source.rows(block)[:label], made.rows(block)[:index])


def _led(shape, rows, made_rows):
    """The shape to which rows of both programs lead; raises BadRow(row) if it does not have all marks of a row."""
    marks, graph = shape.known()
    positions = {mark: at for at, mark in enumerate(marks)}
    board = Board(graph, positions)
    for row in rows:
        if ("late", sets(row)) not in positions or not _has_all(positions, "name", row):
            raise BadRow(row)
        board.do_row(row)
    for row in made_rows:
        if not _has_all(positions, "place", row):
            raise BadRow(row)
        board.do_made_row(row, "place")
    return Shape(Known(marks, neat(board.led_graph())))


def _has_all(positions, kind, row):
    """Whether all words in a row are among some marks, with a kind."""
    return all([(kind, word) in positions for word in words_in(row)])
