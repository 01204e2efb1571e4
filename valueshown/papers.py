"""Papers: what shows that what the library tells is so."""

from valueshown.standing import Standing
from valueshown.verdicts import is_truthful, least_way, verdict, wrong_return


def paper(table, stop, name):
    """A paper for what a table shows for a name at a stop, or None if it shows nothing."""
    word = verdict(table, stop, name)
    if word == "gone":
        return None
    if word == "untrue":
        return ("unlike", least_way(table, stop, name))
    return (word, _rows(table.made))


def table_paper(table):
    """A paper that all that a table shows is true, or None if it is not."""
    if not is_truthful(table):
        return None
    return ("truthful", _rows(table.made))


def return_paper(made):
    """A paper that the returned places have the returned names' values, or one with a way on which one has not."""
    way = wrong_return(made)
    if way is not None:
        return ("unlike", way)
    return ("returns", _rows(made))


def _rows(made):
    """The list of the tuples of the blocks to which ways lead and the values of the shapes that stand there."""
    standing = Standing(made)
    return [(block, standing[block].value()) for block in made.source.reached()]
