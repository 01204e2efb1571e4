"""What stands at the beginning of all ways: nothing, inputs and entries.

Here, nodes are told by numbers: 0 is nothing, 1 is the first input, the
further inputs follow, and behind them the entries of made codes.
"""

from valueshown.nodes import NOTHING, OPEN, neat


def beginning(made):
    """The dict from the plain marks of a made code, ascending, to their numbers."""
    return {**names_at_first(made.source), **places_at_first(made, "place", len(made.source.inputs))}


def names_at_first(source):
    """The dict from the late names and names of a source to their numbers."""
    numbers = {("late", name): 0 for name in source.names()}
    for name in source.names():
        numbers[("name", name)] = 0
    for index, name in enumerate(source.inputs):
        numbers[("name", name)] = 1 + index
    return numbers


def places_at_first(made, kind, before):
    """The dict from the places of a made code, with a kind, to their numbers; so many open nodes are before entries."""
    numbers = {(kind, place): 0 for place in made.places()}
    for index, name in enumerate(made.source.inputs):
        numbers[(kind, made.place_of(name))] = 1 + index
    for index, place in enumerate(made.entries):
        numbers[(kind, place)] = 1 + before + index
    return numbers


def opening_graph(numbers):
    """The neat graph of the marks with these numbers."""
    spots = list(numbers.values())
    many = max([int(spot) for spot in spots], default=0)
    return neat(([NOTHING] + [OPEN for _ in range(many)], spots))
