"""Texts of rows and sources, and sources from texts."""

from valueshown.errors import BadText
from valueshown.sources import Source
from valueshown.words import is_end, is_name, is_row


def write_row(row):
    """The text of a row of a source, or of a made code."""
    if row[0] == "copy":
        return f"{row[1]} = {row[2]}"
    text = f"{row[1]} = {_operation(row[2], row[3])}"
    if row[0] == "set":
        return text
    places = ", ".join(row[4])
    return f"{text} call keeps {places}" if places else f"{text} call"


def write_entry(entry):
    """The text of what a table shows."""
    if isinstance(entry, tuple):
        return _operation(entry[0], entry[1:])
    return entry


def write_source(source):
    """The text of a source."""
    lines = ["inputs " + ", ".join(source.inputs) if source.inputs else "inputs"]
    for block in source.blocks():
        rows, end = source[block]
        lines.append(f"block {block}")
        lines.extend([f"  {write_row(row)}" for row in rows])
        lines.append("  " + " ".join(end))
    return "\n".join(lines)


def read_source(text):
    """The source that a text tells."""
    if not isinstance(text, str):
        raise BadText(None)
    lines = text.split("\n")
    inputs = _read_inputs(lines[0])
    if inputs is None:
        raise BadText(0)
    return Source(_read_blocks(lines), inputs)


def _operation(operation, operands):
    """The text of an operation."""
    inside = ", ".join(operands)
    return f"{operation}({inside})"


def _read_blocks(lines):
    """The list of the blocks that the lines behind the first one tell."""
    blocks = []
    name = None
    rows = []
    for index, line in enumerate(lines[1:], 1):
        end, row = _read_end(line), _read_row(line)
        if name is None:
            name = _read_name(line)
            if name is None:
                raise BadText(index)
        elif end is not None:
            blocks.append((name, tuple(rows), end))
            name = None
            rows = []
        elif row is not None:
            rows.append(row)
        else:
            raise BadText(index)
    if name is not None:
        raise BadText(len(lines))
    return blocks


def _read_inputs(line):
    """The list of the inputs that a line tells, or None."""
    if line == "inputs":
        return []
    word, _, inside = line.partition(" ")
    names = inside.split(", ")
    return names if word == "inputs" and all([is_name(name) for name in names]) else None


def _read_name(line):
    """The name of the block that a line begins, or None."""
    word, _, name = line.partition(" ")
    return name if word == "block" and is_name(name) else None


def _read_end(line):
    """The end that a line tells, or None."""
    end = tuple(line[2:].split(" "))
    return end if line.startswith("  ") and is_end(end) else None


def _read_row(line):
    """The row of a source that a line tells, or None."""
    name, _, given = line[2:].partition(" = ")
    row = ("copy", name, given)
    if given.endswith(")"):
        operation, _, inside = given[:-1].partition("(")
        row = ("set", name, operation, tuple(inside.split(", ")) if inside else ())
    # Whatever has been read in another way is not written like this.
    return row if is_row(row) and line == f"  {write_row(row)}" else None
