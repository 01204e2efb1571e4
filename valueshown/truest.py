"""Most truthful tables: what can be shown as it is, and no more."""

from valueshown.standing import Standing
from valueshown.tables import Table
from valueshown.telling import asked_moments, needless_by


def most_truthful(made):
    """The table that shows at each asked stop each name that can be told, by the first telling."""
    return _most_truthful_by(Standing(made))


def is_most_truthful(table):
    """Whether a table is truthful, and shows at each asked stop each name that can be told."""
    standing = Standing(table.made)
    return not _lies_by(standing, table) and not needless_by(standing, table)


def repaired(table):
    """The table with the entries that tell their names, and for the other names those of the most truthful one."""
    standing = Standing(table.made)
    wrong = _lies_by(standing, table)
    asked = asked_moments(standing)
    right = [row for row in table.rows() if row[0] in asked and row not in wrong]
    return Table(table.made, right) | _most_truthful_by(standing)


def lies(table):
    """The list of the entries at asked stops that do not tell their names."""
    return _lies_by(Standing(table.made), table)


def _most_truthful_by(standing):
    """The most truthful table, by what stands."""
    made = standing.made
    rows = []
    for stop, moment in asked_moments(standing).items():
        for name in made.source.names():
            telling = moment.first_telling(name)
            if telling is not None:
                rows.append((stop, name, telling))
    return Table(made, rows)


def _lies_by(standing, table):
    """The list of the entries at asked stops that do not tell their names, by what stands."""
    asked = asked_moments(standing)
    return [
        (stop, name, entry)
        for stop, name, entry in table.rows()
        if stop in asked and not asked[stop].tells(entry, name)
    ]
