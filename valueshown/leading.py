"""What rows do to the values of marks, whatever stands for the values."""

from valueshown.nodes import OPEN, numbered
from valueshown.words import kept, reads, sets


def past_row(values, row, meaning):
    """The dict from marks to values behind a row of a source."""
    name = sets(row)
    given = _given(row, [values[("name", word)] for word in reads(row)], meaning)
    return {**values, ("late", name): values[("name", name)], ("name", name): given}


def past_made_row(values, row, meaning, losing):
    """The dict from marks to values behind a row of a made code; losing gives a value for each lost place."""
    given = _given(row, [values[("place", word)] for word in reads(row)], meaning)
    changes = {mark: losing() for mark in values if mark[0] == "place" and _loses(row, mark[1])}
    return {**values, **changes, ("place", sets(row)): given}


def led_graph(graph, marks, rows, made_rows):
    """The graph to which rows of both programs lead from a neat one; it is not neat, it may have nodes too many."""
    nodes = list(graph[0])
    numbers = numbered(nodes)

    def meaning(operation, operands):
        part = ("op", operation, operands)
        if part not in numbers:
            numbers[part] = len(nodes)
            nodes.append(part)
        return numbers[part]

    def losing():
        nodes.append(OPEN)
        return len(nodes) - 1

    values = {mark: spot for mark, spot in zip(marks, graph[1])}
    for row in rows:
        values = past_row(values, row, meaning)
    for row in made_rows:
        values = past_made_row(values, row, meaning, losing)
    return (nodes, [values[mark] for mark in marks])


def _loses(row, place):
    """Whether a row loses a place."""
    return row[0] == "call" and place != sets(row) and place not in kept(row)


def _given(row, operands, meaning):
    """The value of what a row sets."""
    if row[0] == "copy":
        return operands[0]
    return meaning(row[2], tuple(operands))
