"""Values and sources that several tests hand in."""

from valueshown.made import Made
from valueshown.sources import Source


class LikeAll:
    """Says that it is equal to every value; it cannot be a key of a dict."""

    def __eq__(self, other):
        return True

    __hash__ = None


class Unprintable:
    """Cannot be compared, shown or used as a key."""

    def __eq__(self, other):
        raise AssertionError("compared")

    def __repr__(self):
        raise AssertionError("shown")

    __hash__ = None


# Values that are no name, no row, no block, no stop and no index of anything.
ODD_VALUES = (
    None, True, False, -1, 99, 1.5, "", "Q", b"a", (), [], {}, set(), ["a"], ("a",), {"a": 1}, [[]],
    LikeAll(), Unprintable(), object(), len, ValueError,
)

DOC_BLOCKS = [("a", (("set", "x", "f", ("i",)), ("copy", "y", "x")), ("return", "y"))]


def doc_source():
    """The source of the document's examples."""
    return Source(list(DOC_BLOCKS), ["i"])


def doc_made():
    """The made code of the document's examples."""
    return Made(doc_source(), {"a": (("set", "p", "f", ("q",)), ("return", "p"))}, {"a": (0, 2)}, {"i": "q"})


def ring_source():
    """A source of three blocks: two in a ring, and one that returns."""
    return Source([
        ("a", (("set", "x", "f", ("i", "j")), ("copy", "y", "x")), ("either", "b", "c")),
        ("b", (("set", "x", "g", ("x",)), ("set", "i", "h", ()), ("set", "x", "g", ("x",))), ("either", "c", "a")),
        ("c", (), ("return", "x")),
    ], ["i", "j"])


def ring_parts():
    """What a made code for the ring's source is made from, each part new."""
    blocks = {
        "a": (("call", "r", "f", ("p", "q"), ("p", "e")), ("copy", "s", "r")),
        "b": (("set", "r", "g", ("r",)), ("call", "p", "h", (), ("r", "s"))),
        "c": (("return", "r"),),
    }
    labels = {"a": (0, 1, 2), "b": (1, 0, 3), "c": (0,)}
    return blocks, labels, {"i": "p", "j": "q"}


def ring_made():
    """A made code for the ring's source, with two entries."""
    return Made(ring_source(), *ring_parts(), entries=("e", "d"))


def unreached_source():
    """A source with two blocks to which no way leads."""
    return Source([
        ("a", (("copy", "x", "i"),), ("either", "a", "c")),
        ("b", (("set", "y", "f", ("x",)),), ("go", "d")),
        ("c", (), ("return", "x")),
        ("d", (), ("return", "y")),
    ], ["i"])


def unreached_made():
    """A made code for it, whose unreached return is of a place that has nothing to do with it."""
    blocks = {"a": (), "b": (("set", "q", "k", ()),), "c": (("return", "p"),), "d": (("return", "q"),)}
    return Made(unreached_source(), blocks, {"a": (1,), "b": (0, 1), "c": (0,), "d": (0,)}, {"i": "p"})
