"""Expressions: what marks tell, by numbers."""

from valueshown.leading import past_made_row, past_row


class Expressions:
    """Expressions of plain marks, lost values and operations, by numbers.

    Those that are built alike have one number, and each has a higher one than
    what it is built of. Seen from behind many rows they are so deep, and share
    so much, that they cannot be compared themselves.
    """

    def __init__(self):
        self._numbers = {}
        self._parts = []

    def number(self, part):
        """The number of an expression: a plain mark, a lost value, or an operation with the operands' numbers."""
        if part not in self._numbers:
            self._numbers[part] = len(self._parts)
            self._parts.append(part)
        return self._numbers[part]

    def of(self, mark):
        """The number of what a mark tells."""
        if mark[0] != "op":
            return self.number(mark)
        return self.number(("op", mark[1], tuple([self.of(part) for part in mark[2]])))

    def ahead(self, pair, marks, rows, made_rows):
        """The numbers of what two expressions are ahead of rows of both programs, in the marks as they are there."""

        def meaning(operation, operands):
            return self.number(("op", operation, operands))

        def losing():
            # No expression has this number so far, so that each lost value is one of its own.
            return self.number(("lost", len(self._parts)))

        values = {mark: self.number(mark) for mark in marks}
        for row in rows:
            values = past_row(values, row, meaning)
        for row in made_rows:
            values = past_made_row(values, row, meaning, losing)

        def simple(part):
            if part in values:
                return values[part]
            return self.number(part)

        return self._worths(pair, simple, meaning)

    def are_equal(self, pair, numbers, spots):
        """Whether two expressions are equal by the nodes of a shape, and the spots of its marks."""
        more = {}

        def added(part):
            # What is no node has a number that no node has.
            if part not in more:
                more[part] = -1 - len(more)
            return more[part]

        def simple(part):
            if part in spots:
                return spots[part]
            return added(part)

        def meaning(operation, operands):
            part = ("op", operation, operands)
            if part in numbers:
                return numbers[part]
            return added(part)

        one, other = self._worths(pair, simple, meaning)
        return one == other

    def _worths(self, pair, simple, meaning):
        """What two expressions are worth, with functions for simple parts and for operations."""
        worths = {}
        for number in self._needed(pair):
            part = self._parts[number]
            if part[0] == "op":
                worths[number] = meaning(part[1], tuple([worths[operand] for operand in part[2]]))
            else:
                worths[number] = simple(part)
        return (worths[pair[0]], worths[pair[1]])

    def _needed(self, pair):
        """The ascending list of the numbers of which two expressions are built."""
        found = {}
        todo = list(pair)
        while todo:
            number = todo.pop()
            if number not in found:
                found[number] = True
                if self._parts[number][0] == "op":
                    todo.extend(self._parts[number][2])
        return sorted([int(number) for number in found])
