"""Made codes that are alike to everybody who steps through them."""

from valueshown.courses import course_beside
from valueshown.errors import BadTable, BadWay
from valueshown.rounds import Rounds
from valueshown.running import holdings
from valueshown.tables import Table
from valueshown.terms import Pool
from valueshown.tracing import least_blocks, traced_way
from valueshown.verdicts import mark_of
from valueshown.ways import check_way, shortest
from valueshown.words import is_among, is_index


class Beside:
    """Two tables of made codes of one source, side by side."""

    def __init__(self, one, other):
        if not isinstance(one, Table):
            raise BadTable(one)
        if not isinstance(other, Table) or one.made.source != other.made.source:
            raise BadTable(other)
        self._one = one
        self._other = other

    def pairs(self):
        """The list of the tuples (block, label, stop of the one, stop of the other) that are asked about."""
        source = self._one.made.source
        reached = source.reached()
        found = []
        for block in source.blocks():
            if block in reached:
                firsts, others = _first_stops(self._one.made, block), _first_stops(self._other.made, block)
                labels = [label for label in range(len(source.rows(block)) + 1) if label in firsts and label in others]
                found.extend([(block, label, firsts[label], others[label]) for label in labels])
        return found

    def parting(self):
        """Where they part, on a way of as few blocks as possible: the tuple (block, label, name, way), or None."""
        rounds = Rounds(course_beside(self._one.made, self._other.made))
        least = None
        fewest = 0
        for question in self._questions():
            many = _fewest_blocks(rounds, question)
            if many is not None and (least is None or many < fewest):
                least, fewest = question, many
        if least is None:
            return None
        return (*least[:3], _least_way(rounds, least))

    def is_alike(self):
        """Whether they do not part."""
        questions = self._questions()
        if any([None in question[4:] for question in questions]):
            return False
        rounds = Rounds(course_beside(self._one.made, self._other.made))
        return all([
            rounds.are_always_equal(block, counts, mark_of(shown), _beside(mark_of(other)))
            for block, _, _, counts, shown, other in questions
        ])

    def parts(self, block, label, name, way):
        """Whether any four values tell that they part so, by playing both along the way."""
        source = self._one.made.source
        if block not in source or not is_index(label, len(source.rows(block))) or not is_among(name, source.names()):
            return False
        if not _is_way_to(source, way, block):
            return False
        asked = [question for question in self._questions() if question[:3] == (block, label, name)]
        return len(asked) > 0 and self._are_unlike(way, asked[0])

    def _questions(self):
        """The list of the tuples (block, label, name, counts of rows done, the one's entry, the other's).

        There is one for each pair of stops and each name that is shown at one of them.
        """
        found = []
        for block, label, stop, beside in self.pairs():
            shown, others = self._one[stop], self._other[beside]
            for name in self._one.made.source.names():
                if name in shown or name in others:
                    counts = (label, stop[1], beside[1])
                    found.append((block, label, name, counts, shown.get(name), others.get(name)))
        return found

    def _are_unlike(self, way, question):
        """Whether what is shown is unlike on a way."""
        counts, shown, other = question[3:]
        if shown is None or other is None:
            return True
        pool = Pool()
        one_number = _number_of(pool, "one", self._one.made, way, counts[1], shown)
        return one_number != _number_of(pool, "other", self._other.made, way, counts[2], other)


def alike_groups(tables):
    """The list of lists of indexes of tables, each in the first group whose first table is alike to it."""
    for index, table in enumerate(tables):
        if not isinstance(table, Table) or table.made.source != tables[0].made.source:
            raise BadTable(index)
    groups = []
    for index, table in enumerate(tables):
        at = 0
        while at < len(groups) and not Beside(tables[groups[at][0]], table).is_alike():
            at += 1
        if at == len(groups):
            groups.append([])
        groups[at].append(index)
    return groups


def _first_stops(made, block):
    """The dict from the labels of a block's stops to the first stop with each."""
    firsts = {}
    for stop in made.stops(block):
        firsts.setdefault(made.label(stop), stop)
    return firsts


def _fewest_blocks(rounds, question):
    """The least number of blocks of a way on which what is shown is unlike, or None."""
    block, counts, shown, other = question[0], question[3], question[4], question[5]
    if shown is None or other is None:
        return len(shortest(rounds.course.source, block))
    return least_blocks(rounds, block, counts, mark_of(shown), _beside(mark_of(other)))


def _least_way(rounds, question):
    """A way of so many blocks."""
    block, counts, shown, other = question[0], question[3], question[4], question[5]
    if shown is None or other is None:
        return shortest(rounds.course.source, block)
    return traced_way(rounds, block, counts, mark_of(shown), _beside(mark_of(other)))


def _beside(mark):
    """The mark of what a table shows, for the made code that is beside the first one."""
    if mark[0] == "op":
        return ("op", mark[1], tuple([_beside(part) for part in mark[2]]))
    return ("other", mark[1])


def _is_way_to(source, value, block):
    """Whether any value is a way to a block."""
    try:
        check_way(source, value)
    except BadWay:
        return False
    return value[-1] == block


def _number_of(pool, side, made, way, index, entry):
    """The number of the term of an entry along a way, where so many rows of its last block have been done.

    Entries and lost values are those of a side.
    """

    def simple(term):
        if term is None or term[0] == "input":
            return pool.number(term)
        return pool.number((*term, side))

    def meaning(operation, operands):
        return pool.number(("op", operation, operands))

    held = holdings(made, way, simple, meaning)[index]
    if not isinstance(entry, tuple):
        return held[entry]
    return meaning(entry[0], tuple([held[place] for place in entry[1:]]))
