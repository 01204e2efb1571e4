"""Courses: what goes through the blocks of a source side by side, told for all that may stand at their beginnings.

A course has lanes: the rows of the source are one, those of each made code are
another one. Each lane has marks of its own, which the rows of others leave alone:
late names and names; places; `other` places, of a made code beside the first one.
Marks of the kind `entry` stay as they are.
"""

from valueshown.beginnings import beginning, names_at_first, opening_graph, places_at_first
from valueshown.leading import Board
from valueshown.nodes import OPEN, Pile

LANES = {"late": 0, "name": 0, "place": 1, "other": 2, "entry": 0}


class Course:
    """The marks of a course, where they stand at its beginning, and what the rows of each block do to them.

    The lanes are a list: for each lane a dict from blocks to tuples of rows. The
    numbers are those of the marks, by their positions.
    """

    def __init__(self, source, first, lanes):
        self.source = source
        self.marks = tuple(list(first))
        self.positions = {mark: at for at, mark in enumerate(self.marks)}
        self.numbers = tuple(range(len(self.marks)))
        self.first_graph = opening_graph(first)
        self.passages = {
            block: Passage(self.positions, [rows[block] for rows in lanes]) for block in source.reached()
        }


class Passage:
    """What the rows of one block do to the marks of a course.

    By numbers: first those of what stands at the marks, by their positions, at
    the beginning of the block; then those of the parts, operations and what is lost.
    """

    def __init__(self, positions, lanes):
        free = ([OPEN for _ in positions], list(range(len(positions))))
        board = Board(free, positions)
        self._positions = positions
        self._states = [_states(board, kind, rows) for kind, rows in zip(("name", "place", "other"), lanes)]
        self.behind = tuple(board.spots)
        self._parts = tuple(board.pile.nodes[len(positions):])

    def number(self, mark, counts):
        """The number of a mark, where so many rows of each lane have been done."""
        lane = LANES[mark[0]]
        return self._states[lane][counts[lane]][self._positions[mark]]

    def worths(self, spots, pile):
        """The list of what all numbers are, with what stands at the marks, as a pile tells the parts."""
        found = list(spots)
        for part in self._parts:
            if part == OPEN:
                found.append(pile.opened())
            else:
                found.append(pile.given(part[1], tuple([found[at] for at in part[2]])))
        return found

    def led(self, graph):
        """The graph to which the rows lead from a graph; it need not be neat, and may have nodes too many."""
        pile = Pile(graph[0])
        worths = self.worths(graph[1], pile)
        return (pile.nodes, [worths[at] for at in self.behind])


def course_of(made):
    """The course of a source and a made code."""
    return Course(made.source, beginning(made), [rows_of(made.source, made.source), rows_of(made.source, made)])


def course_with_entries(made):
    """The same with a mark for each entry, which stays at what the entry is at the beginning."""
    first = beginning(made)
    entries = {("entry", place): first[("place", place)] for place in made.entries}
    lanes = [rows_of(made.source, made.source), rows_of(made.source, made)]
    return Course(made.source, {**first, **entries}, lanes)


def course_beside(one, other):
    """The course of a source and two made codes for it; the places of the second one are `other` ones."""
    source = one.source
    many = len(source.inputs)
    first = {
        **names_at_first(source),
        **places_at_first(one, "place", many),
        **places_at_first(other, "other", many + len(one.entries)),
    }
    return Course(source, first, [rows_of(source, program) for program in (source, one, other)])


def rows_of(source, program):
    """The dict from the blocks of a source to the rows of a program, the source itself or a made code for it."""
    return {block: program.rows(block) for block in source.blocks()}


def _states(board, kind, rows):
    """The list of what stands at the marks, while the rows of a lane are done, ahead of each and behind the last."""
    found = [list(board.spots)]
    for row in rows:
        if kind == "name":
            board.do_row(row)
        else:
            board.do_made_row(row, kind)
        found.append(list(board.spots))
    return found
