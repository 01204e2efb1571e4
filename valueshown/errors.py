"""The errors of the package: each keeps the one value that it is made from."""


class ShownError(ValueError):
    """The base class of the errors about what was handed in."""


class BadRow(ShownError):
    """A row, or a number of rows, does not fit."""

    def __init__(self, index):
        self.index = index


class BadBlock(ShownError):
    """An entry of a source is no block."""

    def __init__(self, index):
        self.index = index


class BadInput(ShownError):
    """An input is no name, or does not lie in a place of its own."""

    def __init__(self, index):
        self.index = index


class BadLabels(ShownError):
    """The labels of a block are missing or do not fit."""

    def __init__(self, block):
        self.block = block


class BadStop(ShownError):
    """A value is no stop."""

    def __init__(self, stop):
        self.stop = stop


class BadWay(ShownError):
    """A value is no way, or an item of it does not fit."""

    def __init__(self, index):
        self.index = index


class BadShown(ShownError):
    """A value is nothing that can be shown, or no place that fits."""

    def __init__(self, what):
        self.what = what


class BadValues(ShownError):
    """There are not as many values as inputs."""

    def __init__(self, count):
        self.count = count


class BadShape(ShownError):
    """A value is no shape."""

    def __init__(self, part):
        self.part = part


class BadMark(ShownError):
    """A value is no mark, or none of those that are there."""

    def __init__(self, mark):
        self.mark = mark


class BadOption(ShownError):
    """A value is no option, or chooses none."""

    def __init__(self, option):
        self.option = option


class BadWish(ShownError):
    """A wish, or an entry of it, does not fit."""

    def __init__(self, index):
        self.index = index


class BadTable(ShownError):
    """A value is no table of the same source."""

    def __init__(self, which):
        self.which = which


class BadFrame(ShownError):
    """A value is no frame, or does not fit the next one."""

    def __init__(self, frame):
        self.frame = frame


class BadText(ShownError):
    """A row of a text is not written as a source is."""

    def __init__(self, line):
        self.line = line


class BadLine(ShownError):
    """A line is none that the console knows."""

    def __init__(self, line):
        self.line = line


class BadTruth(ShownError):
    """A value is neither True nor False."""

    def __init__(self, truth):
        self.truth = truth


class Untrue(ShownError):
    """An entry does not tell its name."""

    def __init__(self, what):
        self.what = what


class UnknownBlock(KeyError):
    """A value is none of the blocks."""

    def __init__(self, block):
        self.block = block


class UnknownName(KeyError):
    """A value is none of the names."""

    def __init__(self, name):
        self.name = name


class TooMany(OverflowError):
    """There is more of something than the limit."""

    def __init__(self, limit):
        self.limit = limit


class NothingToUndo(RuntimeError):
    """There is nothing that could be taken back, or kept."""

    def __init__(self, name):
        self.name = name
