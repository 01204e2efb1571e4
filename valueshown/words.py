"""Names, rows and ends: what they are, and what rows read and set."""

MOST_LETTERS = 8
MOST_OPERANDS = 2


def is_list(value):
    """Whether any value may stand where a list is asked for."""
    return isinstance(value, (list, tuple))


def is_among(value, words):
    """Whether any value is one of some strings, or a key of a dict of them."""
    # The first test keeps away values that cannot be keys, and those that tell themselves equal to all others.
    return isinstance(value, str) and value in words


def is_index(value, most):
    """Whether any value is an integer from 0 to most."""
    return isinstance(value, int) and not isinstance(value, bool) and 0 <= value <= most


def begins(value, word, size):
    """Whether any value is a tuple of this size, with the word as its first item."""
    return isinstance(value, tuple) and len(value) == size and is_among(value[0], (word,))


def is_name(value):
    """Whether any value is a name."""
    if not isinstance(value, str) or not 1 <= len(value) <= MOST_LETTERS:
        return False
    return value.isascii() and value.isalpha() and value.islower()


def are_unlike_names(value):
    """Whether any value is a tuple of unlike names."""
    return _are_names(value) and len(set(value)) == len(value)


def is_row(value):
    """Whether any value is a row of a source."""
    if begins(value, "set", 4):
        return _gives(value)
    return begins(value, "copy", 3) and is_name(value[1]) and is_name(value[2])


def is_made_row(value):
    """Whether any value is a row of a made code."""
    if begins(value, "call", 5):
        return _gives(value) and are_unlike_names(value[4])
    return is_row(value)


def is_end(value):
    """Whether any value is an end."""
    if begins(value, "either", 3):
        return is_name(value[1]) and is_name(value[2]) and value[1] != value[2]
    return is_return(value) or (begins(value, "go", 2) and is_name(value[1]))


def is_return(value):
    """Whether any value is an end that returns a name, or a place."""
    return begins(value, "return", 2) and is_name(value[1])


def is_entry(value, places):
    """Whether any value shows something: one of the places, or a tuple of an operation and at most two of them."""
    if not isinstance(value, tuple):
        return is_among(value, places)
    if not 1 <= len(value) <= 1 + MOST_OPERANDS or not is_name(value[0]):
        return False
    return all([is_among(place, places) for place in value[1:]])


def reads(row):
    """The tuple of the names, or places, that a row reads, as they stand in it."""
    if row[0] == "copy":
        return (row[2],)
    return row[3]


def sets(row):
    """The name, or place, that a row sets."""
    return row[1]


def kept(row):
    """The tuple of the places that a row keeps by name: only a call loses others."""
    if row[0] == "call":
        return row[4]
    return ()


def words_in(row):
    """The tuple of all names, or places, in a row."""
    return (sets(row),) + reads(row) + kept(row)


def ascending(words):
    """The ascending list of some strings."""
    # By str it is plain that strings alone are sorted, which LANGUAGE.md asks for where a class has an order.
    return sorted(set([str(word) for word in words]))


def _are_names(value):
    """Whether any value is a tuple of names."""
    return isinstance(value, tuple) and all([is_name(item) for item in value])


def _gives(row):
    """Whether a row is right up to the operands of its operation."""
    return is_name(row[1]) and is_name(row[2]) and _are_names(row[3]) and len(row[3]) <= MOST_OPERANDS
