"""Values and sources that several tests hand in."""

from valueshown.sources import Source


class LikeAll:
    """Says that it is equal to every value; it cannot be a key of a dict."""

    def __eq__(self, other):
        return True

    __hash__ = None


class Unprintable:
    """Cannot be compared, shown or used as a key."""

    def __eq__(self, other):
        raise AssertionError("compared")

    def __repr__(self):
        raise AssertionError("shown")

    __hash__ = None


# Values that are no name, no row, no block, no stop and no index of anything.
ODD_VALUES = (
    None, True, False, -1, 99, 1.5, "", "Q", b"a", (), [], {}, set(), ["a"], ("a",), {"a": 1}, [[]],
    LikeAll(), Unprintable(), object(), len, ValueError,
)

DOC_BLOCKS = [("a", (("set", "x", "f", ("i",)), ("copy", "y", "x")), ("return", "y"))]


def doc_source():
    """The source of the document's examples."""
    return Source(list(DOC_BLOCKS), ["i"])
