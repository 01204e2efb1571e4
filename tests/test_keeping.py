"""Menus of values to keep, and the least sets of them."""

import itertools
import random
import unittest

from tests.brute import few_rounds, random_made, renamed, some_made, told_on_all, walks_to, words_of
from tests.test_standing import lattice
from tests.values import ODD_VALUES, LikeAll, Unprintable, doc_made, ring_made, unreached_made
from valueshown.errors import BadOption, BadRow, BadStop, BadWish, TooMany
from valueshown.keeping import Menu, is_met, least_keeps
from valueshown.made import Made
from valueshown.sources import Source
from valueshown.telling import can_be_told, is_asked

A0, A1, A2, A3, B0, C0 = ("a", 0), ("a", 1), ("a", 2), ("a", 3), ("b", 0), ("c", 0)
SPARES = [f"z{letter}" for letter in "abcdefgh"]


def lossy():
    """A made code that soon has no longer what its names had."""
    source = Source([("a", (("set", "x", "f", ("i",)), ("copy", "i", "j"), ("copy", "y", "x")), ("return", "y"))],
                    ["i", "j"])
    rows = (("set", "p", "f", ("p",)), ("set", "p", "g", ()), ("set", "q", "g", ()), ("return", "q"))
    return Made(source, {"a": rows}, {"a": (0, 1, 1, 3)}, {"i": "p", "j": "q"})


def lossy_menu():
    return Menu(lossy(), [(A0, "p", "za"), (A1, "p", "zb"), (A0, "q", "zc"), (A3, "p", "zd")])


def random_menu(rng, made, most=5):
    spares = SPARES[::]
    rng.shuffle(spares)
    places = made.places()
    many = rng.randint(0, most) if places else 0
    return Menu(made, [(rng.choice(made.all_stops()), rng.choice(places), spare) for spare in spares[:many]])


def random_wish(rng, made):
    asked = [(stop, name) for stop in made.all_stops() if is_asked(made, stop) for name in made.source.names()]
    return rng.sample(asked, min(len(asked), rng.randint(0, 3)))


def random_lossy(rng):
    """A made code of one or two blocks that has no calls, but sets its places to other values."""
    blocks = ["a", "b"][:rng.randint(1, 2)]
    parts, codes, labels = [], {}, {}
    for block in blocks:
        rows = tuple(("set", rng.choice("xy"), "g", (rng.choice("ijxy"), rng.choice("ij"))) for _ in range(2))
        parts.append((block, rows, ("go", blocks[-1])))
        codes[block] = tuple(("set", rng.choice("pq"), "h", ()) for _ in range(rng.randint(1, 4)))
        labels[block] = tuple(sorted(rng.randint(0, 2) for _ in codes[block])) + (2,)
    return Made(Source(parts, ["i", "j"]), codes, labels, {"i": "p", "j": "q"})


def hard_wish(rng, menu):
    """A wish of what cannot be told, but with all options; or else any."""
    chosen = tuple(range(len(menu)))
    hard = [
        (stop, name) for stop in menu.made.all_stops() for name in menu.made.source.names()
        if is_asked(menu.made, stop) and not is_met(menu, (), [(stop, name)]) and is_met(menu, chosen, [(stop, name)])
    ]
    return rng.sample(hard, min(len(hard), rng.randint(1, 2))) or random_wish(rng, menu.made)


def all_chosen(menu):
    return [part for many in range(len(menu) + 1) for part in itertools.combinations(range(len(menu)), many)]


def with_copies(menu, chosen):
    """The made code with some options, by one copy at a time; and the dict from old stops to new ones."""
    made = menu.made
    stops = {stop: stop for stop in made.all_stops()}
    for index in chosen:
        stop, place, spare = menu[index]
        made = made.with_copy(stops[stop], place, spare)
        for old in stops:
            if old[0] == stop[0] and old[1] >= stop[1]:
                stops[old] = (old[0], stops[old][1] + 1)
    return made, stops


class MenuTest(unittest.TestCase):
    def test_some(self):
        made = lossy()
        menu = Menu(made, [(A0, "p", "za")])
        self.assertTrue(menu.made is made)
        self.assertEqual((len(menu), menu[0]), (1, (A0, "p", "za")))
        for empty in (Menu(made), Menu(made, ()), Menu(made=made, options=[])):
            self.assertEqual(len(empty), 0)
            self.assertEqual(empty(()), made)
        self.assertEqual(Menu(made, ((A0, "p", "za"),)), menu)

    def test_no_list(self):
        for value in ODD_VALUES + ("ab", iter([])):
            if not isinstance(value, (list, tuple)):
                with self.assertRaises(BadOption) as caught:
                    Menu(lossy(), value)
                self.assertEqual(caught.exception.option, None)

    def test_entries_that_are_no_options(self):
        bad = ODD_VALUES + (
            (A0, "p"), (A0, "p", "za", "zb"), [A0, "p", "za"], (("a", 4), "p", "za"), (("z", 0), "p", "za"),
            (("a", True), "p", "za"), (["a", 0], "p", "za"), (("a",), "p", "za"), (None, "p", "za"),
            (A0, "z", "za"), (A0, "i", "za"), (A0, None, "za"), (A0, LikeAll(), "za"), (A0, ["p"], "za"),
            (A0, "p", "q"), (A0, "p", "p"), (A0, "p", "Z"), (A0, "p", ""), (A0, "p", "abcdefghi"), (A0, "p", None),
            (A0, "p", LikeAll()), (LikeAll(), "p", "za"), (A0, "p", 5), (A0, "p", ["za"]),
        )
        right = (A1, "q", "zz")
        for value in bad:
            for options, index in (([value], 0), ([right, value, None], 1), ((right, (A0, "p", "za"), value), 2)):
                with self.assertRaises(BadOption) as caught:
                    Menu(lossy(), options)
                self.assertEqual((caught.exception.option, type(caught.exception.option)), (index, int))
        # A name of the source may be spare.
        self.assertEqual(len(Menu(lossy(), [(A0, "p", "x")])), 1)

    def test_spares_are_unlike(self):
        with self.assertRaises(BadOption) as caught:
            Menu(lossy(), [(A0, "p", "za"), (A1, "q", "zb"), (A1, "q", "za"), None])
        self.assertEqual(caught.exception.option, 2)
        self.assertEqual(len(Menu(lossy(), [(A0, "p", "za"), (A0, "p", "zb")])), 2)

    def test_more_than_eight(self):
        nine = [(A0, "p", spare) for spare in SPARES] + [(A1, "p", "zi")]
        self.assertEqual(len(Menu(lossy(), nine[:8])), 8)
        with self.assertRaises(TooMany) as caught:
            Menu(lossy(), nine)
        self.assertEqual(caught.exception.limit, 8)
        for wrong, index in ((nine[:8] + [None], 8), (nine + [nine[0]], 9), ([None] + nine, 0)):
            with self.assertRaises(BadOption) as caught:
                Menu(lossy(), wrong)
            self.assertEqual(caught.exception.option, index)
        menu = Menu(lossy(), nine[:8])
        with self.assertRaises(TooMany):
            menu + nine[8]
        with self.assertRaises(BadOption) as caught:
            menu + nine[0]
        self.assertEqual(caught.exception.option, 8)

    def test_indexes(self):
        menu = lossy_menu()
        self.assertEqual([menu[index] for index in range(4)][::3], [(A0, "p", "za"), (A3, "p", "zd")])
        for value in ODD_VALUES + (4, -1, "0", slice(0, 1)):
            if value is True or value is False or not (isinstance(value, int) and 0 <= value < 4):
                with self.assertRaises(BadOption) as caught:
                    menu[value]
                self.assertTrue(caught.exception.option is value)
        with self.assertRaises(BadOption):
            Menu(lossy())[0]

    def test_in(self):
        menu = lossy_menu()
        for index in range(4):
            self.assertTrue((menu[index] in menu) is True)
        for value in ODD_VALUES + (
            (A0, "p", "zb"), (A0, "q", "za"), (A1, "p", "za"), (("a", False), "p", "za"), (("a", 0.0), "p", "za"),
            [A0, "p", "za"], (A0, "p", LikeAll()), (LikeAll(), "p", "za"), (A0, "p"), 0, "za",
            (A0, Unprintable(), "za"),
        ):
            self.assertTrue((value in menu) is False)

    def test_equal(self):
        menu = lossy_menu()
        self.assertEqual(menu, lossy_menu())
        options = [menu[index] for index in range(4)]
        self.assertNotEqual(menu, Menu(lossy(), options[::-1]))
        self.assertNotEqual(menu, Menu(lossy(), options[:3]))
        other = lossy().with_rows("a", lossy().rows("a") + (("return", "p"),), (0, 1, 1, 3))
        self.assertNotEqual(menu, Menu(other, options))
        for value in (None, options, tuple(options), lossy(), 4):
            self.assertFalse(menu == value)

    def test_plus(self):
        menu = lossy_menu()
        more = menu + (A1, "q", "ze")
        self.assertEqual([len(menu), len(more), more[4], type(more)], [4, 5, (A1, "q", "ze"), Menu])
        self.assertTrue(more.made is menu.made)
        same = menu
        same += (A1, "q", "ze")
        self.assertEqual(same, more)
        self.assertEqual((len(menu), menu), (4, lossy_menu()))
        for value in ODD_VALUES + ((A0, "p", "za"), (A0, "p", "p"), [], [(A1, "q", "ze")], lossy_menu()):
            with self.assertRaises(BadOption) as caught:
                menu + value
            self.assertEqual(caught.exception.option, 4)
            with self.assertRaises(BadOption) as caught:
                same += value
            self.assertEqual(caught.exception.option, 5)
        self.assertEqual(same, more)

    def test_it_is_not_iterated(self):
        with self.assertRaises(TypeError):
            iter(lossy_menu())

    def test_nothing_is_kept(self):
        options = [(A0, "p", "za")]
        menu = Menu(lossy(), options)
        options.append((A0, "p", "zb"))
        self.assertEqual(len(menu), 1)


class WithOptionsTest(unittest.TestCase):
    def test_rows_labels_and_stops(self):
        menu = lossy_menu()
        made = menu((0, 1, 2, 3))
        self.assertEqual(made.rows("a"), (
            ("copy", "za", "p"), ("copy", "zc", "q"), ("set", "p", "f", ("p",)), ("copy", "zb", "p"),
            ("set", "p", "g", ()), ("set", "q", "g", ()), ("copy", "zd", "p"),
        ))
        self.assertEqual(made.labels("a"), (0, 0, 0, 1, 1, 1, 3, 3))
        self.assertEqual(made.returned("a"), "q")
        stops = made.stops("a")
        self.assertEqual([menu.stays((0, 1, 2, 3), stop) for stop in (A0, A1, A2, A3)], [
            stops[2], stops[4], stops[5], stops[7],
        ])
        self.assertEqual([menu.stays((1,), stop) for stop in (A0, A1, A2, A3)], [stops[0], *stops[2:5]])
        self.assertEqual(menu(chosen=()), lossy())
        self.assertEqual(menu.stays(chosen=(), stop=A2), A2)
        self.assertEqual(menu((2,)).rows("a")[0], ("copy", "zc", "q"))
        self.assertEqual(menu.made, lossy())

    def test_other_blocks_stay(self):
        menu = Menu(ring_made(), [(B0, "p", "za"), (A1, "q", "zb"), (C0, "r", "zc")])
        made = menu((0, 1, 2))
        self.assertEqual(made.entries, ("e", "d"))
        self.assertEqual([menu.stays((0, 1), stop) for stop in (A0, A1, A2, B0, C0)],
                         [A0, A2, ("a", 3), ("b", 1), C0])
        self.assertEqual(made.returned("c"), "r")

    def test_against_copies_one_by_one(self):
        rng = random.Random(81)
        for made in some_made(81, 40):
            menu = random_menu(rng, made)
            for chosen in all_chosen(menu):
                right, stops = with_copies(menu, chosen)
                self.assertEqual(menu(chosen), right)
                for stop, later in stops.items():
                    self.assertEqual(menu.stays(chosen, stop), later)
                    self.assertEqual(right.label(later), made.label(stop))

    def test_bad_chosen(self):
        menu = lossy_menu()
        wish = [(A0, "i")]
        for value in ODD_VALUES + (
            [0], [], (4,), (-1,), (0, 0), (1, 0), (0, 2, 1), (True,), (0, True), (False,), ("0",), ((0,),), (None,), 0,
            (0.0,), (LikeAll(),), (0, LikeAll()), range(2), (0, 1, 2, 3, 4),
        ):
            if isinstance(value, tuple) and not value:
                continue
            for call in (
                lambda: menu(value), lambda: menu.stays(value, None), lambda: is_met(menu, value, None),
                lambda: menu.stays(value, A0), lambda: is_met(menu, value, wish),
            ):
                with self.assertRaises(BadOption) as caught:
                    call()
                self.assertTrue(caught.exception.option is value)
        with self.assertRaises(BadOption):
            Menu(lossy())((0,))

    def test_bad_stops(self):
        menu = lossy_menu()
        for value in ODD_VALUES + (("a", 4), ("a", True), ("z", 0), ["a", 0], "a"):
            with self.assertRaises(BadStop) as caught:
                menu.stays((0,), value)
            self.assertTrue(caught.exception.stop is value)

    def test_too_many_rows(self):
        made = lossy().with_rows("a", tuple([("copy", "p", "p")] * 14) + (("return", "q"),), (0,) * 14 + (3,))
        menu = Menu(made, [(A0, "p", "za"), (A0, "q", "zb"), (A1, "q", "zc")])
        self.assertEqual(len(menu((0, 1)).rows("a")), 16)
        with self.assertRaises(BadRow) as caught:
            menu((0, 1, 2))
        self.assertEqual(caught.exception.index, "a")
        self.assertEqual(menu.stays((0, 1, 2), A1), ("a", 4))
        self.assertTrue(is_met(menu, (0, 1), []) is True)
        self.assertTrue(is_met(menu, (0, 1, 2), []) is False)
        full = Source([("b", (), ("go", "a")), ("a", (), ("go", "b"))])
        rows = (("copy", "p", "p"),) * 16
        menu = Menu(Made(full, {"a": rows, "b": rows}, {"a": (0,) * 17, "b": (0,) * 17}, {}),
                    [(A0, "p", "za"), (B0, "p", "zb")])
        for chosen, block in (((0,), "a"), ((1,), "b"), ((0, 1), "b")):
            with self.assertRaises(BadRow) as caught:
                menu(chosen)
            self.assertEqual(caught.exception.index, block)


class WishTest(unittest.TestCase):
    def test_some(self):
        menu = lossy_menu()
        for wish, right in (
            ([], [()]), ([(A0, "i")], [()]), ([(A1, "i")], [(0,)]), ([(A3, "x")], [(0,), (1,)]),
            ([(A3, "i")], [(2,)]), ([(A3, "i"), (A3, "x")], [(0, 2), (1, 2)]), ([(A3, "y")], [(0,), (1,)]),
            ([(A1, "i"), (A2, "x")], [(0,)]), (((A1, "i"), (A3, "i")), [(0, 2)]),
        ):
            self.assertEqual(least_keeps(menu, wish), right, wish)
            self.assertEqual(least_keeps(menu=menu, wish=wish), right, wish)
            for chosen in all_chosen(menu):
                met = any(set(least) <= set(chosen) for least in right)
                self.assertTrue(is_met(menu, chosen, wish) is met)
        self.assertTrue(is_met(menu=menu, chosen=(0,), wish=[(A1, "i")]))
        self.assertEqual(least_keeps(Menu(lossy()), [(A3, "i")]), [])
        self.assertEqual(least_keeps(Menu(lossy()), []), [()])

    def test_two_operands(self):
        source = Source([("a", (("set", "x", "g", ("i", "j")),), ("return", "x"))], ["i", "j"])
        rows = (("set", "p", "h", ()), ("set", "q", "h", ()), ("return", "p"))
        made = Made(source, {"a": rows}, {"a": (0, 0, 1)}, {"i": "p", "j": "q"})
        menu = Menu(made, [(A0, "p", "za"), (A0, "q", "zb"), (A0, "p", "zc"), (A2, "p", "zd")])
        self.assertEqual(least_keeps(menu, [(A2, "x")]), [(0, 1), (1, 2)])
        self.assertEqual(least_keeps(menu, [(A2, "x"), (A2, "i")]), [(0, 1), (1, 2)])
        self.assertEqual(least_keeps(menu, [(A2, "i")]), [(0,), (2,)])
        self.assertEqual(least_keeps(menu, [(A1, "j")]), [()])

    def test_sets_with_too_many_rows(self):
        rows = (("set", "p", "h", ()), ("set", "q", "h", ())) + (("copy", "p", "p"),) * 13
        source = Source([("a", (), ("go", "b")), ("b", (), ("go", "b"))], ["i", "j"])
        made = Made(source, {"a": rows, "b": ()}, {"a": (0,) * 16, "b": (0,)}, {"i": "p", "j": "q"})
        menu = Menu(made, [(A0, "p", "za"), (A0, "q", "zb"), (A0, "q", "zc")])
        self.assertEqual(least_keeps(menu, [(B0, "i")]), [(0,)])
        self.assertEqual(least_keeps(menu, [(B0, "j")]), [(1,), (2,)])
        self.assertEqual(least_keeps(menu, [(B0, "j"), (B0, "i")]), [])
        self.assertTrue(is_met(menu, (0, 1), [(B0, "i")]) is False)

    def test_many_options_where_only_a_few_have_room(self):
        rows = (("set", "p", "h", ()), ("set", "q", "h", ())) + (("copy", "p", "p"),) * 12
        source = Source([("a", (), ("go", "b")), ("b", (), ("go", "b"))], ["i", "j"])
        made = Made(source, {"a": rows, "b": ()}, {"a": (0,) * 15, "b": (0,)}, {"i": "p", "j": "q"})
        menu = Menu(made, [(A0, "pq"[at % 2], spare) for at, spare in enumerate(SPARES)])
        self.assertEqual(least_keeps(menu, [(B0, "i"), (B0, "j")]), [
            (one, other) for one in range(8) for other in range(one + 1, 8) if (one + other) % 2
        ])

    def test_spares_that_are_lost(self):
        source = Source([("a", (), ("go", "b")), ("b", (), ("either", "b", "c")), ("c", (), ("go", "c"))], ["i"])
        made = Made(source, {"a": (("call", "q", "h", (), ("p",)),), "b": (("call", "p", "h", (), ()),), "c": ()},
                    {"a": (0, 0), "b": (0, 0), "c": (0,)}, {"i": "p"})
        menu = Menu(made, [(A0, "p", "za"), (A1, "p", "zb"), (B0, "p", "zc"), (("b", 1), "p", "zd")])
        self.assertEqual(least_keeps(menu, [(A1, "i")]), [()])
        self.assertEqual(least_keeps(menu, [(B0, "i")]), [])
        self.assertEqual(least_keeps(menu, [(C0, "i")]), [])

    def test_against_all_sets(self):
        rng = random.Random(82)
        some = {0: 0, 1: 0, 2: 0}
        for made in few_rounds(some_made(82, 100) + [random_lossy(rng) for _ in range(80)], 4):
            menu = random_menu(rng, made)
            wish = hard_wish(rng, menu) if len(made.source) < 3 else random_wish(rng, made)
            met = []
            for chosen in all_chosen(menu):
                now, stops = with_copies(menu, chosen)
                right = all(
                    told_on_all(now, stops[stop], name, walks_to(now, stop[0], 4)) for stop, name in wish
                )
                met.extend([chosen] if right else [])
                self.assertTrue(is_met(menu, chosen, wish) is right)
            least = [one for one in met if not any(set(two) < set(one) for two in met)]
            self.assertEqual(least_keeps(menu, wish), least)
            for one in least:
                some[min(len(one), 2)] += 1
        self.assertTrue(min(some.values()) > 3, some)

    def test_against_told_for_any_made_codes(self):
        rng = random.Random(83)
        for made in some_made(83, 60):
            menu = random_menu(rng, made, 4)
            wish = random_wish(rng, made)
            met = []
            for chosen in all_chosen(menu):
                now = menu(chosen)
                right = all(can_be_told(now, menu.stays(chosen, stop), name) for stop, name in wish)
                met.extend([chosen] if right else [])
                self.assertTrue(is_met(menu, chosen, wish) is right)
            self.assertEqual(
                least_keeps(menu, wish), [one for one in met if not any(set(two) < set(one) for two in met)],
            )

    def test_options_more_leave_what_could_be_told(self):
        rng = random.Random(84)
        for made in some_made(84, 40):
            menu = random_menu(rng, made)
            chosen = tuple(range(len(menu)))
            for stop in made.all_stops():
                for name in made.source.names():
                    if is_asked(made, stop) and can_be_told(made, stop, name):
                        self.assertTrue(can_be_told(menu(chosen), menu.stays(chosen, stop), name))
                        self.assertEqual(least_keeps(menu, [(stop, name)]), [()])

    def test_other_words(self):
        rng = random.Random(85)
        for made in some_made(85, 40):
            menu = random_menu(rng, made)
            wish = random_wish(rng, made)
            words = words_of(made) + SPARES
            new = ["w" + letter + other for letter in "abcde" for other in "abcdefgh"][:len(words)]
            rng.shuffle(new)
            change = dict(zip(words, new))

            def there(stop):
                return (change[stop[0]], stop[1])

            options = [menu[index] for index in range(len(menu))]
            other = Menu(renamed(made, change), [(there(at), change[one], change[two]) for at, one, two in options])
            self.assertEqual(
                least_keeps(other, [(there(stop), change[name]) for stop, name in wish]), least_keeps(menu, wish),
            )

    def test_bad_wishes(self):
        menu = Menu(unreached_made(), [(A0, "p", "za")])
        calls = (lambda wish: is_met(menu, (0,), wish), lambda wish: least_keeps(menu, wish))
        for value in ODD_VALUES:
            if not isinstance(value, (list, tuple)):
                for call in calls:
                    with self.assertRaises(BadWish) as caught:
                        call(value)
                    self.assertEqual(caught.exception.index, None)
        right = (C0, "x")
        for value in ODD_VALUES + (
            (A0, "x", "y"), (A0,), [A0, "x"], (("a", 1), "x"), (("a", False), "x"), (B0, "x"), (("d", 0), "y"),
            (["a", 0], "x"), (A0, "z"), (A0, "p"), (A0, None), (A0, ["x"]), (A0, LikeAll()), (LikeAll(), "x"), right,
        ):
            for call in calls:
                for wish, index in (([right, value, None], 1), ((right, (A0, "x"), value), 2)):
                    with self.assertRaises(BadWish) as caught:
                        call(wish)
                    self.assertEqual((caught.exception.index, type(caught.exception.index)), (index, int))
                if value is not right:
                    with self.assertRaises(BadWish) as caught:
                        call([value])
                    self.assertEqual(caught.exception.index, 0)

    def test_arguments_stay(self):
        wish = [(A1, "i"), (A3, "x")]
        menu = lossy_menu()
        is_met(menu, (0,), wish)
        least_keeps(menu, wish).append(None)
        self.assertEqual((wish, menu), ([(A1, "i"), (A3, "x")], lossy_menu()))
        self.assertEqual(least_keeps(menu, wish), [(0,)])

    def test_too_many_nodes(self):
        menu = Menu(lattice(15), [(A0, "p", "za")])
        for call in (lambda: is_met(menu, (0,), [(A0, "x")]), lambda: least_keeps(menu, [(A0, "x")])):
            with self.assertRaises(BadWish):
                call()
        with self.assertRaises(TooMany) as caught:
            is_met(Menu(lattice(16)), (), [])
        self.assertEqual(caught.exception.limit, 20000)
        with self.assertRaises(TooMany):
            least_keeps(Menu(lattice(16)), [])

    def test_random_made_codes_of_all_kinds(self):
        rng = random.Random(86)
        for _ in range(30):
            made = random_made(rng)
            menu = random_menu(rng, made, 8)
            wish = random_wish(rng, made)
            for least in least_keeps(menu, wish):
                self.assertTrue(is_met(menu, least, wish))
                for at in range(len(least)):
                    self.assertFalse(is_met(menu, least[:at] + least[at + 1:], wish))


if __name__ == "__main__":
    unittest.main()
