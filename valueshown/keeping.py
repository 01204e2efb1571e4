"""Values to keep: copies of places more, and the least sets of them with which names can be told."""

from valueshown.beginnings import beginning
from valueshown.courses import Course, rows_of
from valueshown.errors import BadOption, BadWish, TooMany
from valueshown.made import MOST_MADE_ROWS
from valueshown.moments import Moment, moment_at
from valueshown.rounds import Rounds
from valueshown.standing import Standing
from valueshown.telling import is_asked
from valueshown.words import is_among, is_index, is_list, is_name

MOST_OPTIONS = 8


class Menu:
    """Options of a made code: copies of places to spare ones, ahead of stops."""

    def __init__(self, made, options=()):
        _check_options(made, options)
        self.made = made
        self._options = tuple(options)

    def __len__(self):
        return len(self._options)

    def __getitem__(self, at):
        if not is_index(at, len(self._options) - 1):
            raise BadOption(at)
        return self._options[at]

    def __iter__(self):
        raise TypeError("a menu cannot be iterated")

    def __contains__(self, x):
        return _is_option(self.made, x) and x in self._options

    def __eq__(self, other):
        return isinstance(other, Menu) and self.made == other.made and self._options == other._options

    def __add__(self, other):
        return Menu(self.made, [*self._options, other])

    def __iadd__(self, other):
        return Menu(self.made, [*self._options, other])

    def __call__(self, chosen):
        options = self.chosen_options(chosen)
        made = self.made
        for block in made.source.blocks():
            rows, labels = _longer(self.made, options, block)
            if self.made.returned(block) is not None:
                rows = rows + (("return", self.made.returned(block)),)
            made = made.with_rows(block, rows, labels)
        return made

    def stays(self, chosen, stop):
        """The stop as which a stop stays in the made code with some options."""
        options = self.chosen_options(chosen)
        self.made.label(stop)
        return (stop[0], stop[1] + _many_ahead(options, stop))

    def chosen_options(self, chosen):
        """The list of the options with a rising tuple of indexes; raises BadOption(chosen) for any other value."""
        if not isinstance(chosen, tuple) or not all([is_index(index, len(self._options) - 1) for index in chosen]):
            raise BadOption(chosen)
        if not all([one < other for one, other in zip(chosen, chosen[1:])]):
            raise BadOption(chosen)
        return [self._options[index] for index in chosen]


def is_met(menu, chosen, wish):
    """Whether a wish is met by the made code with some options."""
    options = menu.chosen_options(chosen)
    _check_wish(menu.made, wish)
    if not _has_room(menu.made, options):
        return False
    standing = Standing(menu(chosen))
    return all([moment_at(standing, menu.stays(chosen, stop)).tellings(name) for stop, name in wish])


def least_keeps(menu, wish):
    """The list of all least sets of options for a wish, those with fewer options ahead, then ascending.

    Copies to spare places leave all else as it is, so that what stands in the made
    code with some options also stands, but for the other spare places, in the one
    with all of them, however many rows that one has.
    """
    _check_wish(menu.made, wish)
    everything = tuple(range(len(menu)))
    sources = _sources(menu, menu.chosen_options(everything), wish)
    places = menu.made.places()
    found = []
    for chosen in _choices(len(menu)):
        if any([all([index in chosen for index in least]) for least in found]):
            continue
        options = menu.chosen_options(chosen)
        known = [*places, *[option[2] for option in options]]
        if _has_room(menu.made, options) and all([_can_be_told(source, known) for source in sources]):
            found.append(chosen)
    return found


def _choices(many):
    """The list of all rising tuples of so many indexes, shorter ones ahead, then ascending."""
    found = [()]
    newest = [()]
    for _ in range(many):
        newest = [(*chosen, index) for chosen in newest for index in range(many) if not chosen or index > chosen[-1]]
        found.extend(newest)
    return found


def _sources(menu, options, wish):
    """The list of what tells each name of a wish (`Moment.told_from`) in the made code with all options."""
    made = menu.made
    first = {**beginning(made), **{("place", option[2]): 0 for option in options}}
    rows = {block: _longer(made, options, block)[0] for block in made.source.blocks()}
    rounds = Rounds(Course(made.source, first, [rows_of(made.source, made.source), rows]))
    found = []
    for stop, name in wish:
        counts = (made.label(stop), stop[1] + _many_ahead(options, stop))
        found.append(Moment(rounds.course.marks, rounds.graph_at(stop[0], counts)).told_from(name))
    return found


def _can_be_told(source, known):
    """Whether what tells a name does so by known places alone."""
    places, operation, operands = source
    if any([place in known for place in places]):
        return True
    return operation is not None and all([any([place in known for place in part]) for part in operands])


def _longer(made, options, block):
    """The tuples of the rows of a block, without the return, and of its labels, with some options."""
    rows = []
    labels = []
    for stop in made.stops(block):
        more = [("copy", spare, place) for at, place, spare in options if at == stop]
        rows.extend(more)
        rows.extend(made.rows(block)[stop[1]:stop[1] + 1])
        labels.extend([made.label(stop) for _ in range(len(more) + 1)])
    return (tuple(rows), tuple(labels))


def _many_ahead(options, stop):
    """How many options have their rows in the block of a stop, ahead of it."""
    return len([option for option in options if option[0][0] == stop[0] and option[0][1] <= stop[1]])


def _has_room(made, options):
    """Whether no block has too many rows with some options."""
    return all([
        len(made.rows(block)) + len([option for option in options if option[0][0] == block]) <= MOST_MADE_ROWS
        for block in made.source.blocks()
    ])


def _check_options(made, options):
    """Raise an error if any value is no list of options, or has two with one spare place, or too many."""
    if not is_list(options):
        raise BadOption(None)
    spares = []
    for index, option in enumerate(options):
        if not _is_option(made, option) or option[2] in spares:
            raise BadOption(index)
        spares.append(option[2])
    if len(spares) > MOST_OPTIONS:
        raise TooMany(MOST_OPTIONS)


def _is_option(made, value):
    """Whether any value is an option of a made code."""
    if not isinstance(value, tuple) or len(value) != 3 or not made.is_stop(value[0]):
        return False
    places = made.places()
    return is_among(value[1], places) and is_name(value[2]) and value[2] not in places


def _check_wish(made, wish):
    """Raise an error if any value is no list of unlike tuples of an asked stop and a name."""
    if not is_list(wish):
        raise BadWish(None)
    earlier = {}
    for index, entry in enumerate(wish):
        if not _is_wished(made, entry) or entry in earlier:
            raise BadWish(index)
        earlier[entry] = True


def _is_wished(made, value):
    """Whether any value is a tuple of an asked stop and a name."""
    if not isinstance(value, tuple) or len(value) != 2:
        return False
    return made.is_stop(value[0]) and is_asked(made, value[0]) and is_among(value[1], made.source.names())
