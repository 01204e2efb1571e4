"""Small made codes at random, and what stands on some ways by playing them all."""

import random

from valueshown.made import Made
from valueshown.players import Walk
from valueshown.sources import Source
from valueshown.standing import Standing, always
from valueshown.tables import Table
from valueshown.telling import told_by, tellings
from valueshown.verdicts import mark_of
from valueshown.ways import ways_to

NAMES = ("i", "j", "x", "y")
PLACES = ("p", "q", "r", "s")
OPERATIONS = (("f", 1), ("g", 2), ("h", 0), ("f", 2))


def random_end(rng, blocks, place):
    kind = rng.choice(("go", "either", "either", "return"))
    if kind == "either" and len(blocks) > 1:
        return ("either", *rng.sample(blocks, 2))
    if kind == "return":
        return ("return", rng.choice(NAMES))
    return ("go", rng.choice(blocks))


def random_row(rng, words, kinds):
    kind = rng.choice(kinds)
    if kind == "copy":
        return ("copy", rng.choice(words), rng.choice(words))
    operation, many = rng.choice(OPERATIONS)
    row = (kind, rng.choice(words), operation, tuple(rng.choice(words) for _ in range(many)))
    if kind == "call":
        row += (tuple(rng.sample(words, rng.randint(1, len(words)))),)
    return row


def random_source(rng, most_blocks=4, most_rows=3):
    blocks = list("abcdefgh"[:rng.randint(1, most_blocks)])
    parts = []
    for block in blocks:
        rows = tuple(random_row(rng, NAMES, ("set", "copy", "copy")) for _ in range(rng.randint(0, most_rows)))
        parts.append((block, rows, random_end(rng, blocks, None)))
    return Source(parts, rng.sample(NAMES, rng.randint(0, 3)))


def random_made(rng, source=None):
    """A made code, often one that has much to do with its source."""
    source = source or random_source(rng)
    if rng.random() < 0.3:
        return Made.plain(source)
    home = dict(zip(NAMES, rng.sample(PLACES, len(PLACES))))
    blocks, labels = {}, {}
    for block in source.blocks():
        rows, marks = [], []
        for label, row in enumerate(source.rows(block)):
            if rng.random() < 0.8:
                marks.append(label)
                rows.append(moved(row, home))
            if rng.random() < 0.3:
                marks.append(rng.randint(0, len(source.rows(block))))
                rows.append(random_row(rng, PLACES, ("set", "copy", "call")))
        marks.append(len(source.rows(block)))
        if source.end(block)[0] == "return":
            rows.append(("return", home[source.end(block)[1]]))
        blocks[block], labels[block] = tuple(rows), tuple(marks)
    lies = {name: home[name] for name in source.inputs}
    rest = [place for place in PLACES if place not in lies.values()]
    return Made(source, blocks, labels, lies, entries=tuple(rng.sample(rest, rng.randint(0, len(rest)))))


def moved(row, home):
    """A row with places for names."""
    if row[0] == "copy":
        return ("copy", home[row[1]], home[row[2]])
    return ("set", home[row[1]], row[2], tuple(home[name] for name in row[3]))


def some_made(seed, many):
    """Many small made codes, always the same ones."""
    rng = random.Random(seed)
    return [random_made(rng) for _ in range(many)]


def terms_at(walk, label, index):
    """The dict from the plain marks to their terms."""
    terms = {("name", name): term for name, term in walk.named(label).items()}
    terms.update({("late", name): term for name, term in walk.late(label).items()})
    terms.update({("place", place): term for place, term in walk.held(index).items()})
    return terms


def term_of(mark, terms):
    """The term of any mark."""
    if mark[0] != "op":
        return terms[mark]
    return ("op", mark[1], tuple(term_of(part, terms) for part in mark[2]))


def walks_to(made, block, most):
    return [Walk(made, way) for way in ways_to(made.source, block, most)]


def value_of_ways(all_terms):
    """The value of the shape that fits some ways, and is within each that does: each node is met on all of them."""
    numbers, nodes = {}, []

    def number(terms):
        if terms not in numbers:
            first = terms[0]
            part = ("open",)
            if all(term is None for term in terms):
                part = ("nothing",)
            elif all(term is not None and term[0] == "op" and term[1] == first[1] for term in terms):
                if len({len(term[2]) for term in terms}) == 1:
                    part = ("op", first[1], tuple(number(operands) for operands in zip(*[t[2] for t in terms])))
            numbers[terms] = len(nodes)
            nodes.append(part)
        return numbers[terms]

    stands = tuple((mark, number(tuple(terms[mark] for terms in all_terms))) for mark in sorted(all_terms[0]))
    return (tuple(nodes), stands)


def random_mark(rng, marks, deep=2):
    """A mark that has in it some of these."""
    if not marks or deep == 0 or rng.random() < 0.6:
        return rng.choice(marks) if marks else ("op", "h", ())
    operation, many = rng.choice(OPERATIONS)
    return ("op", operation, tuple(random_mark(rng, marks, deep - 1) for _ in range(many)))


def random_table(rng, made):
    """A table with true entries, late ones and others."""
    told = tellings(made)
    standing = Standing(made)
    rows = []
    for stop in made.all_stops():
        for name in made.source.names():
            shown = [entry for entry in told if rng.random() < 0.3]
            if stop[0] in made.source.reached() and rng.random() < 0.6:
                shown = told_by(made, stop, name)
            if rng.random() < 0.4:
                shown = [entry for entry in told if always(standing, stop, mark_of(entry), ("late", name))] or shown
            if shown:
                rows.append((stop, name, rng.choice(shown)))
    return Table(made, rows)


def some_tables(seed, many):
    """Many tables of small made codes, always the same ones."""
    rng = random.Random(seed)
    return [random_table(rng, random_made(rng)) for _ in range(many)]


def renamed(made, words):
    """A made code with other words for names, blocks, operations and places, by a dict for all of them."""
    def row_of(row):
        if row[0] == "copy":
            return ("copy", words[row[1]], words[row[2]])
        new = (row[0], words[row[1]], words[row[2]], tuple(words[word] for word in row[3]))
        return new + tuple(tuple(words[word] for word in part) for part in row[4:])

    def end_of(end):
        return (end[0], *[words[word] for word in end[1:]])

    source = made.source
    parts = [(words[block], tuple(map(row_of, source.rows(block))), end_of(source.end(block)))
             for block in source.blocks()]
    codes, labels = {}, {}
    for block in source.blocks():
        back = made.returned(block)
        codes[words[block]] = tuple(map(row_of, made.rows(block))) + ((("return", words[back]),) if back else ())
        labels[words[block]] = made.labels(block)
    lies = {words[name]: words[made.place_of(name)] for name in source.inputs}
    new = Source(parts, [words[name] for name in source.inputs])
    return Made(new, codes, labels, lies, entries=tuple(words[place] for place in made.entries))


def words_of(made):
    """All words of a made code."""
    found = set(made.source.names()) | set(made.source.blocks()) | set(made.places())
    for block in made.source.blocks():
        found |= {row[2] for row in made.source.rows(block) + made.rows(block) if row[0] != "copy"}
    return sorted(found)


def entry_renamed(entry, words):
    return tuple(words[word] for word in entry) if isinstance(entry, tuple) else words[entry]


def told_on_all(made, stop, name, walks):
    """The list of the tellings that tell a name on all of some walks to the block of a stop."""
    label = made.label(stop)
    return [
        entry for entry in tellings(made)
        if all(walk.shown(stop, entry) == walk.named(label)[name] for walk in walks)
    ]


def few_rounds(all_made, most=5):
    """Those made codes for which all ways of at most so many blocks tell all that stands."""
    return [made for made in all_made if len(Standing(made)) <= most]
