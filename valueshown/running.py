"""Both programs along a way, with values of any kind.

What a value is, two functions tell: `simple` gives that of a term that is no
operation, `meaning` that of an operation and the values of its operands.
"""

from valueshown.words import kept, reads, sets


def first_named(source, simple):
    """The dict from the names to their values at the beginning."""
    named = {name: simple(None) for name in source.names()}
    for name in source.inputs:
        named[name] = simple(("input", name))
    return named


def first_held(made, simple):
    """The dict from the places, ascending, to their values at the beginning."""
    held = {place: simple(None) for place in made.places()}
    for name in made.source.inputs:
        held[made.place_of(name)] = simple(("input", name))
    for place in made.entries:
        held[place] = simple(("entry", place))
    return held


def settings(source, way, simple, meaning):
    """The list of the tuples (name, value) that the rows of a source set along a way, its last block done, too."""
    named = first_named(source, simple)
    found = []
    for block in way:
        for row in source.rows(block):
            name, value = sets(row), _given(row, named, meaning)
            named[name] = value
            found.append((name, value))
    return found


def holdings(made, way, simple, meaning):
    """The list of the dicts of what the places hold ahead of each row of a way's last block, and ahead of its end."""
    held = first_held(made, simple)
    lost = 0
    found = []
    for block in way:
        found = [held]
        for row in made.rows(block):
            changes = {place: simple(("lost", lost + at)) for at, place in enumerate(_lost_by(row, held))}
            lost += len(changes)
            changes[sets(row)] = _given(row, held, meaning)
            held = {**held, **changes}
            found.append(held)
    return found


def _lost_by(row, held):
    """The list of the places, ascending, that a row loses."""
    if row[0] != "call":
        return []
    return [place for place in held if place != sets(row) and place not in kept(row)]


def _given(row, values, meaning):
    """The value of what a row sets."""
    operands = tuple([values[word] for word in reads(row)])
    if row[0] == "copy":
        return operands[0]
    return meaning(row[2], operands)
