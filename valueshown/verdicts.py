"""Verdicts: whether what a table shows is the source's."""

from valueshown.standing import Standing, always, unlike_way
from valueshown.tracks import Track
from valueshown.ways import ways_to
from valueshown.words import is_return

KINDS = ("true", "elder", "ahead", "false")


def mark_of(entry):
    """The mark of what a table shows."""
    if isinstance(entry, tuple):
        return ("op", entry[0], tuple([("place", place) for place in entry[1:]]))
    return ("place", entry)


def verdict(table, stop, name):
    """The word for what a table shows for a name at a stop."""
    entry = table.entry(stop, name)
    if entry is None:
        return "gone"
    return word_by(Standing(table.made), stop, name, entry)


def all_words(table):
    """The list of the tuples (stop, name, word) for all that is shown."""
    return words_by(Standing(table.made), table)


def is_truthful(table):
    """Whether all that a table shows is always the source's."""
    return all([word == "true" for _, _, word in all_words(table)])


def least_way(table, stop, name):
    """A shortest way on which what is shown is not the source's, or None."""
    entry = table.entry(stop, name)
    if entry is None:
        return None
    return least_way_by(Standing(table.made), stop, name, entry)


def kind_on(table, stop, name, way):
    """The kind of what is shown on one way, or `gone`."""
    track = Track(table.made, way)
    track.check_stop(stop)
    entry = table.entry(stop, name)
    if entry is None:
        return "gone"
    label = table.made.label(stop)
    shown = track.shown(stop, entry)
    if shown == track.named(label)[name]:
        return "true"
    if shown in track.history(name, label):
        return "elder"
    if shown in track.coming(name, label):
        return "ahead"
    return "false"


def kinds_up_to(table, stop, name, most):
    """The list of the kinds that occur on ways of at most so many blocks."""
    if table.entry(stop, name) is None:
        return []
    found = [kind_on(table, stop, name, way) for way in ways_to(table.made.source, stop[0], most)]
    return [kind for kind in KINDS if kind in found]


def wrong_return(made):
    """A shortest way to a return where the returned place does not have the returned name's value, or None."""
    return wrong_return_by(Standing(made))


def word_by(standing, stop, name, entry):
    """The word for an entry that is shown, by what stands."""
    if always(standing, stop, mark_of(entry), ("name", name)):
        return "true"
    if always(standing, stop, mark_of(entry), ("late", name)):
        return "late"
    return "untrue"


def words_by(standing, table):
    """The list of the tuples (stop, name, word) for all that a table shows, by what stands."""
    return [(stop, name, word_by(standing, stop, name, entry)) for stop, name, entry in table.rows()]


def least_way_by(standing, stop, name, entry):
    """A shortest way on which an entry is not the source's, or None, by what stands."""
    return unlike_way(standing, stop, mark_of(entry), ("name", name))


def wrong_return_by(standing):
    """A shortest way to a return whose place does not have the name's value, or None, by what stands."""
    made = standing.made
    ways = []
    for block in made.source.blocks():
        end = made.source.end(block)
        if is_return(end):
            marks = (("name", end[1]), ("place", made.returned(block)))
            ways.append(unlike_way(standing, made.stops(block)[-1], marks[0], marks[1]))
    wrong = [way for way in ways if way is not None]
    if not wrong:
        return None
    least = min([len(way) for way in wrong])
    return [way for way in wrong if len(way) == least][0]
