"""What terms are worth."""

import unittest

from tests.values import LikeAll
from valueshown.errors import UnknownName
from valueshown.terms import Pool, worth

I = ("input", "i")
J = ("input", "j")


class Meaning:
    """Keeps what it is called with, and gives the number of the call."""

    def __init__(self):
        self.calls = []

    def __call__(self, operation, operands):
        self.calls.append((operation, operands))
        return len(self.calls)


class WorthTest(unittest.TestCase):
    def test_terms_without_operations(self):
        for term in (None, ("entry", "p"), ("lost", 0), ("lost", 17)):
            self.assertEqual(worth(term, {}, None), term)
        self.assertEqual(worth(I, {"i": 5}, None), 5)
        self.assertIsNone(worth(I, {"i": None}, None))

    def test_any_value_of_an_input(self):
        for value in (None, True, [], {}, LikeAll(), ("op", "f", (I,)), I, J):
            self.assertTrue(worth(I, {"i": value, "j": 1}, None) is value)

    def test_operations(self):
        meaning = Meaning()
        self.assertEqual(worth(("op", "f", ()), {}, meaning), 1)
        self.assertEqual(worth(("op", "g", (I,)), {"i": "u"}, meaning), 2)
        self.assertEqual(worth(("op", "h", (J, I)), {"i": "u", "j": "v"}, meaning), 3)
        self.assertEqual(worth(("op", "k", (None, ("lost", 2))), {}, meaning), 4)
        self.assertEqual(worth(("op", "k", (("entry", "p"), I)), {"i": [1]}, meaning), 5)
        self.assertEqual(meaning.calls, [
            ("f", ()), ("g", ("u",)), ("h", ("v", "u")), ("k", (None, ("lost", 2))), ("k", (("entry", "p"), [1])),
        ])
        for _, operands in meaning.calls:
            self.assertIsInstance(operands, tuple)

    def test_operations_of_operations(self):
        meaning = Meaning()
        term = ("op", "f", (("op", "g", (I, ("op", "h", ()))), ("op", "k", (J,))))
        self.assertEqual(worth(term, {"i": "u", "j": "v"}, meaning), 4)
        self.assertEqual(meaning.calls, [("h", ()), ("g", ("u", 1)), ("k", ("v",)), ("f", (2, 3))])

    def test_a_meaning_that_writes_itself_down(self):
        term = ("op", "f", (("op", "g", (I, None)), ("op", "f", ())))
        self.assertEqual(worth(term, {"i": I}, lambda operation, operands: ("op", operation, operands)), term)

    def test_other_results(self):
        term = ("op", "minus", (("op", "twice", (I,)), J))
        meanings = {"minus": lambda x, y: x - y, "twice": lambda x: 2 * x}
        self.assertEqual(worth(term, {"i": 7, "j": 3}, lambda operation, values: meanings[operation](*values)), 11)
        self.assertIsNone(worth(term, {"i": 7, "j": 3}, lambda operation, values: None))

    def test_unknown_name(self):
        for term in (I, ("op", "f", (I,)), ("op", "f", (J, ("op", "g", (I, J))))):
            for inputs in ({"j": 1}, {"j": 1, "x": 2, None: 3}):
                with self.assertRaises(UnknownName) as caught:
                    worth(term, inputs, Meaning())
                self.assertEqual(caught.exception.name, "i")
        for name in (None, ["i"], {}, 3, ("i",), LikeAll()):
            with self.assertRaises(UnknownName) as caught:
                worth(("input", name), {"i": 1}, Meaning())
            self.assertTrue(caught.exception.name is name)

    def test_deep_terms(self):
        term = I
        for _ in range(20000):
            term = ("op", "f", (term,))
        self.assertEqual(worth(term, {"i": 1}, lambda operation, operands: operands[0] + 1), 20001)

    def test_by_name_and_nothing_changed(self):
        inputs = {"i": 1, "j": 2}
        value = worth(meaning=lambda operation, operands: operands, term=("op", "f", (I, J)), inputs=inputs)
        self.assertEqual((value, inputs), ((1, 2), {"i": 1, "j": 2}))


class PoolTest(unittest.TestCase):
    def test_like_terms_have_one_number_and_are_one(self):
        pool = Pool()
        first = pool.number(I)
        self.assertEqual(pool.number(("op", "f", (first, first))), pool.number(("op", "f", (first, first))))
        self.assertNotEqual(pool.number(("op", "f", (first,))), pool.number(("op", "f", (first, first))))
        self.assertNotEqual(pool.number(("lost", 0)), pool.number(("lost", 1)))
        number = pool.number(("op", "g", (pool.number(None), first)))
        self.assertEqual(pool.term(number), ("op", "g", (None, I)))
        self.assertTrue(pool.term(number)[2][1] is pool.term(first))


if __name__ == "__main__":
    unittest.main()
