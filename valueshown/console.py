"""A console: lines that change a session, or ask about it."""

from valueshown.errors import BadLine
from valueshown.sessions import Session
from valueshown.stepping import longest_stepping
from valueshown.tables import written
from valueshown.telling import needless, told_by
from valueshown.truest import lies

DIGITS = "0123456789"
MOST_DIGITS = 4

# How many words there are in each kind of line, but for `stepping`; the third one is an index.
SIZES = {"show": 5, "hide": 4, "undo": 1, "at": 3, "told": 4, "gone": 1, "lies": 1}


class Console:
    """A session, and what is told of it line by line."""

    def __init__(self, made):
        self.session = Session(made)

    def run(self, line):
        """Do what a line says; returns the answer."""
        words = _words_of(line)
        table = self.session.table()
        if words[0] == "undo":
            self.session.undo()
            return "ok"
        if words[0] == "gone":
            return str(len(needless(table)))
        if words[0] == "lies":
            return str(len(lies(table)))
        if words[0] == "stepping":
            return _listed([str(index) for index in longest_stepping(table.made, words[1], words[2:])])
        return self._run_at(words[0], (words[1], int(words[2])), words[3:])

    def _run_at(self, command, stop, words):
        """Do what a line says of a stop."""
        table = self.session.table()
        if command == "at":
            return table(stop) or "-"
        if command == "told":
            return _listed([written(entry) for entry in told_by(table.made, stop, words[0])])
        if command == "show":
            self.session.show(stop, words[0], _entry_of(words[1]))
        else:
            self.session.hide(stop, words[0])
        return "ok"


def _words_of(line):
    """The list of the words of a line; raises BadLine(line) for any value that is none that the console knows."""
    if not isinstance(line, str):
        raise BadLine(line)
    words = line.split(" ")
    # There are no empty words, and none with other white space in them.
    if words != line.split() or not _is_known(words):
        raise BadLine(line)
    return words


def _is_known(words):
    """Whether words are a line of one of the kinds."""
    if words[0] == "stepping":
        return len(words) > 1
    if len(words) != SIZES.get(words[0]):
        return False
    return len(words) < 3 or _is_index(words[2])


def _is_index(word):
    """Whether a word is one to four digits without zeros ahead."""
    if len(word) > MOST_DIGITS or not all([letter in DIGITS for letter in word]):
        return False
    return word == "0" or word[0] != "0"


def _entry_of(word):
    """What a word shows: an operation of places, if it is written so, otherwise a place."""
    if word.count("(") != 1 or not word.endswith(")"):
        return word
    operation, _, inside = word[:-1].partition("(")
    return (operation, *inside.split(",")) if inside else (operation,)


def _listed(words):
    """Words separated by blanks, or a dash for none."""
    return " ".join(words) or "-"
