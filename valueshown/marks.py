"""Marks: what is spoken of at one time, and operations of it.

A plain mark is one of the first three kinds: a late name, a name or a place.
"""

from valueshown.words import MOST_OPERANDS, begins, is_among, is_name

# The kinds of the plain marks, as marks ascend.
KINDS = ("late", "name", "place")


def is_plain_mark(value):
    """Whether any value is a plain mark."""
    return isinstance(value, tuple) and len(value) == 2 and is_among(value[0], KINDS) and is_name(value[1])


def is_mark(value, known):
    """Whether any value is a mark that has in it only plain marks among some."""
    if isinstance(value, tuple) and len(value) == 2:
        # What is known are tuples of strings; others may tell themselves equal to them.
        return isinstance(value[0], str) and isinstance(value[1], str) and value in known
    return is_operation(value) and all([is_mark(part, known) for part in value[2]])


def is_operation(value):
    """Whether any value is (`op`, operation, operands), with a tuple of not too many operands of any kind."""
    if not begins(value, "op", 3) or not is_name(value[1]):
        return False
    return isinstance(value[2], tuple) and len(value[2]) <= MOST_OPERANDS


def node_of(mark, simple, pile):
    """The node of a mark: a function tells those of plain marks, a pile those of operations."""
    if mark[0] != "op":
        return simple(mark)
    return pile.given(mark[1], tuple([node_of(part, simple, pile) for part in mark[2]]))
