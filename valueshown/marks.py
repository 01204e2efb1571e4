"""Marks: what is spoken of at one time, and operations of it.

A plain mark is one of the first three kinds: a late name, a name or a place.
"""

from valueshown.words import MOST_OPERANDS, ascending, begins, is_among, is_name

# The kinds of the plain marks, as marks ascend.
KINDS = ("late", "name", "place")


def is_plain_mark(value):
    """Whether any value is a plain mark."""
    return isinstance(value, tuple) and len(value) == 2 and is_among(value[0], KINDS) and is_name(value[1])


def is_mark(value, known):
    """Whether any value is a mark that has in it only plain marks of a dict."""
    if is_plain_mark(value):
        return value in known
    return is_operation(value) and all([is_mark(part, known) for part in value[2]])


def is_operation(value):
    """Whether any value is (`op`, operation, operands), with a tuple of not too many operands of any kind."""
    if not begins(value, "op", 3) or not is_name(value[1]):
        return False
    return isinstance(value[2], tuple) and len(value[2]) <= MOST_OPERANDS


def plain_marks(names, places):
    """The ascending list of the plain marks of some names, with their late names, and places."""
    return in_order(
        [("late", name) for name in names] + [("name", name) for name in names] + [("place", place) for place in places]
    )


def in_order(marks):
    """The ascending list of some plain marks, without doubles."""
    return [
        (kind, word)
        for kind in KINDS
        for word in ascending([mark[1] for mark in marks if mark[0] == kind])
    ]
