"""Frames beneath: in which places the values of callers lie while one steps through what they have called."""

from valueshown.courses import course_with_entries
from valueshown.errors import BadFrame, BadShown, BadStop
from valueshown.rounds import Rounds
from valueshown.standing import counts_at
from valueshown.tables import Table
from valueshown.telling import is_asked
from valueshown.words import ascending, is_among, is_index, is_list

MOST_FRAMES = 8


def lies_now(made, stop, place):
    """The ascending list of the places in which the value of an entry always lies at an asked stop."""
    if not is_asked(made, stop):
        raise BadStop(stop)
    if not is_among(place, made.entries):
        raise BadShown(place)
    return _all_lying(made, stop)[place]


class Stack:
    """Frames, the innermost one first, each of which has been called by the next one."""

    def __init__(self, frames):
        _check_frames(frames)
        self._frames = tuple(frames)

    def __len__(self):
        return len(self._frames)

    def beneath(self, depth, place):
        """The ascending list of the innermost frame's places in which a place's value of a frame always lies."""
        table, _ = self._frame(depth)
        if not is_among(place, table.made.places()):
            raise BadShown(place)
        return _found_from(place, self._lying_ahead(depth))

    def shown(self, depth, name):
        """What shows a name of a frame, by places of the innermost one, or None."""
        table, stop = self._frame(depth)
        return _carried(table.entry(stop, name), self._lying_ahead(depth))

    def shown_names(self, depth):
        """The ascending list of the names of a frame that something shows."""
        table, stop = self._frame(depth)
        lying = self._lying_ahead(depth)
        return [name for name, entry in table[stop].items() if _carried(entry, lying) is not None]

    def _frame(self, depth):
        """The frame at a depth."""
        if not is_index(depth, len(self._frames) - 1):
            raise BadFrame(depth)
        return self._frames[depth]

    def _lying_ahead(self, depth):
        """For each frame ahead of a depth, the next one first: the dict from its entries to lists of places."""
        return [_all_lying(table.made, stop) for table, stop in self._frames[:depth][::-1]]


def _all_lying(made, stop):
    """The dict from the entries of a made code to the ascending lists of the places in which their values lie."""
    rounds = Rounds(course_with_entries(made))
    counts = counts_at(made, stop)
    spots = {place: rounds.spot(stop[0], counts, ("place", place)) for place in made.places()}
    found = {}
    for entry in made.entries:
        spot = rounds.spot(stop[0], counts, ("entry", entry))
        found[entry] = [place for place, at in spots.items() if at == spot]
    return found


def _found_from(place, lying):
    """The ascending list of the places that are found from one, frame by frame."""
    found = [place]
    for homes in lying:
        found = ascending([home for entry in found for home in homes.get(entry, [])])
    return found


def _carried(entry, lying):
    """What a table shows, with each place put by the first one that is found from it; None if one lies nowhere."""
    if entry is None:
        return None
    places = entry[1:] if isinstance(entry, tuple) else (entry,)
    found = [_found_from(place, lying) for place in places]
    if not all([len(homes) > 0 for homes in found]):
        return None
    if isinstance(entry, tuple):
        return (entry[0], *[homes[0] for homes in found])
    return found[0][0]


def _check_frames(frames):
    """Raise an error if any value is no list of frames, or their entries are not places of the next ones."""
    if not is_list(frames) or not 1 <= len(frames) <= MOST_FRAMES:
        raise BadFrame(None)
    for index, frame in enumerate(frames):
        if not _is_frame(frame) or (index > 0 and not _is_at_call(frame[0].made, frame[1])):
            raise BadFrame(index)
    for index, frame in enumerate(frames[:-1]):
        places = frames[index + 1][0].made.places()
        if not all([entry in places for entry in frame[0].made.entries]):
            raise BadFrame(index)


def _is_frame(value):
    """Whether any value is a tuple of a table and an asked stop."""
    if not isinstance(value, tuple) or len(value) != 2 or not isinstance(value[0], Table):
        return False
    made = value[0].made
    return made.is_stop(value[1]) and is_asked(made, value[1])


def _is_at_call(made, stop):
    """Whether a stop is ahead of a row that is a call."""
    return [row[0] for row in made.rows(stop[0])[stop[1]:stop[1] + 1]] == ["call"]
