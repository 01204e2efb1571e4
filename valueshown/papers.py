"""Papers: what shows that what the library tells is so."""

from valueshown.standing import Standing
from valueshown.verdicts import least_way_by, word_by, words_by, wrong_return_by


def paper(table, stop, name):
    """A paper for what a table shows for a name at a stop, or None if it shows nothing."""
    entry = table.entry(stop, name)
    if entry is None:
        return None
    standing = Standing(table.made)
    word = word_by(standing, stop, name, entry)
    if word == "untrue":
        return ("unlike", least_way_by(standing, stop, name, entry))
    return (word, _rows(standing))


def table_paper(table):
    """A paper that all that a table shows is true, or None if it is not."""
    standing = Standing(table.made)
    if not all([word == "true" for _, _, word in words_by(standing, table)]):
        return None
    return ("truthful", _rows(standing))


def return_paper(made):
    """A paper that the returned places have the returned names' values, or one with a way on which one has not."""
    standing = Standing(made)
    way = wrong_return_by(standing)
    if way is not None:
        return ("unlike", way)
    return ("returns", _rows(standing))


def _rows(standing):
    """The list of the tuples of the blocks to which ways lead and the values of the shapes that stand there."""
    return [(block, standing[block].value()) for block in standing.made.source.reached()]
