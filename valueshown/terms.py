"""Terms: how values are built from inputs, entries, lost values and nothing."""

from valueshown.errors import UnknownName
from valueshown.words import is_among


def worth(term, inputs, meaning):
    """The value of a term, with a dict of the values of the inputs and a meaning."""
    # Terms of long ways are deeper than calls may be nested, so what is still to be done stands in a list.
    todo = [(term, False)]
    done = []
    while todo:
        part, has_operands = todo.pop()
        if has_operands:
            begin = len(done) - len(part[2])
            operands = tuple(done[begin:])
            del done[begin:]
            done.append(meaning(part[1], operands))
        elif part is not None and part[0] == "op":
            todo.append((part, True))
            todo.extend([(operand, False) for operand in part[2][::-1]])
        else:
            done.append(simple_worth(part, inputs))
    return done[0]


def simple_worth(term, inputs):
    """The value of a term that is no operation."""
    if term is None or term[0] != "input":
        return term
    if not is_among(term[1], inputs):
        raise UnknownName(term[1])
    return inputs[term[1]]


class Pool:
    """Terms by numbers: terms that are built alike have one number, and are one tuple.

    Terms may be so deep, and share so much, that they cannot be compared
    themselves. Their numbers can.
    """

    def __init__(self):
        self._numbers = {}
        self._terms = []

    def number(self, part):
        """The number of a term: given as it is, but for an operation, which has its operands' numbers in it."""
        if part not in self._numbers:
            self._numbers[part] = len(self._terms)
            self._terms.append(self._built(part))
        return self._numbers[part]

    def known(self, part):
        """The number of a term, or, if it has none so far, what it was given as, which is no number."""
        return self._numbers.get(part, part)

    def term(self, number):
        """The term with a number, or the one that is given as a part."""
        if isinstance(number, tuple):
            return self._built(number)
        return self._terms[number]

    def _built(self, part):
        """The term that a part tells."""
        if part is None or part[0] != "op":
            return part
        return ("op", part[1], tuple([self._terms[number] for number in part[2]]))
