import copy
import inspect
import random
import unittest

from breathrows.errors import BadDeed, BadRooms, Known, NoBellows, NoGap, NoRow, Open, Sealed, TooLong, Unlike
from breathrows.shop import Shop
from breathrows.slips import Row
from handed import as_lists, as_tuples, exchanged, kinds, spoil
from shop_by_rule import SlowShop, all_of, made_anew, told_or_refused
from slips_by_rule import everything
from slow import BREATHS, some_rooms
from things import NEITHER

ROOMS = (2, 1, 3)
DEEDS = {"build": ["name", "rooms"], "raze": ["name"], "breathe": ["name", "word"], "seal": ["name", "bellows"],
         "scrape": ["name", "bellows"], "saw": ["one", "other", "gap"], "lengthen": ["one", "other"]}
# Deeds that can be done in this order: each word of a deed is among them.
SOME = [
    ("build", "a", (2, 1, 3)), ("build", "b", (2, 1, 3)), ("breathe", "a", [("L+", 4), ("R-", 1)]), ("seal", "a", 1),
    ("breathe", "b", [("R+", 8), ("L-", 2)]), ("saw", "a", "b", 1), ("build", "c", (1, 1)), ("seal", "c", 0),
    ("breathe", "c", [("R+", 2), ("L-", 3)]), ("lengthen", "b", "c"), ("scrape", "b", 3), ("raze", "a"),
    ("build", "a", (5,)), ("breathe", "a", [("L+", 2)]), ("breathe", "b", [("L-", 9)])]


def some_shop():
    return made_anew(SOME)


def some_shop_and(deeds):
    return made_anew(SOME + deeds)


def kinds_of(pair):
    """A pair of what told_or_refused tells, with kinds."""
    word, told = pair
    if isinstance(told, dict):
        return word, {name: kinds(worth) for name, worth in told.items()}
    return word, kinds(told)


class Interface(unittest.TestCase):
    def test_methods_and_their_arguments(self):
        asks = {"undo": [], "do": ["deeds", "whole"], "names": [], "row_of": ["name"], "ins": ["name"], "deeds": [],
                "marks": [], "is_open": [], "twin": []}
        for name, arguments in {**DEEDS, **asks}.items():
            self.assertIn(name, vars(Shop))
            self.assertEqual(list(inspect.signature(getattr(Shop, name)).parameters), ["self"] + arguments)
        for name in ("__len__", "__eq__"):
            self.assertIn(name, vars(Shop))
        whole = inspect.signature(Shop.do).parameters["whole"]
        self.assertEqual((whole.kind, whole.default), (inspect.Parameter.KEYWORD_ONLY, True))
        self.assertEqual(list(inspect.signature(Shop).parameters), [])

    def test_a_new_shop(self):
        shop = Shop()
        self.assertEqual(kinds(all_of(shop)), kinds([[], [], [], 0, 0, [], True]))
        self.assertIs(shop.undo(), False)

    def test_by_places_and_by_names(self):
        shop, named = Shop(), Shop()
        for word, *things in SOME:
            arguments = dict(reversed(list(zip(DEEDS[word], things))))
            self.assertEqual(kinds(getattr(named, word)(**arguments)), kinds(getattr(shop, word)(*things)))
        self.assertEqual(all_of(named), all_of(shop))
        self.assertEqual(named.ins(name="a"), 2)
        self.assertTrue(named.row_of(name="a") == shop.row_of("a"))
        self.assertEqual(named.do(deeds=[("raze", "a")], whole=False), [None])
        self.assertEqual(named.do(whole=True, deeds=[]), [])
        self.assertRaises(TypeError, named.do, [], True)

    def test_none_is_told_where_nothing_is_said(self):
        shop = Shop()
        for word, *things in SOME:
            told = getattr(shop, word)(*things)
            if word == "breathe":
                self.assertIs(type(told), list)
            else:
                self.assertIsNone(told)

    def test_lists_for_tuples_and_tuples_for_lists(self):
        for shape in (as_lists, as_tuples, exchanged):
            shop, due = Shop(), Shop()
            for word, *things in SOME:
                told = getattr(shop, word)(*[shape(thing) for thing in things])
                self.assertEqual(kinds(told), kinds(getattr(due, word)(*things)))
            self.assertEqual(kinds(all_of(shop)), kinds(all_of(due)))
            shop = Shop()
            shop.do(tuple((word, *[shape(thing) for thing in things]) for word, *things in SOME))
            self.assertTrue(shop == due)

    def test_what_is_handed_in_is_not_changed_nor_kept(self):
        shop = Shop()
        for word, *things in SOME:
            mine = [as_lists(thing) for thing in things]
            before = copy.deepcopy(mine)
            getattr(shop, word)(*mine)
            self.assertEqual(mine, before)
            spoil(mine)
        self.assertEqual(kinds(all_of(shop)), kinds(all_of(some_shop())))
        shop, deeds = Shop(), [(word, *[as_lists(thing) for thing in things]) for word, *things in SOME]
        before = copy.deepcopy(deeds)
        shop.do(deeds)
        self.assertEqual(kinds(deeds), kinds(before))
        told = kinds(all_of(shop))
        spoil(deeds)
        self.assertEqual(kinds(all_of(shop)), told)
        while shop.undo():
            pass
        self.assertEqual(shop.marks(), [("in", len(SOME))] + [word for word, *_ in SOME] + [("out", len(SOME))])

    def test_told_changed_and_told_again(self):
        shop = some_shop()
        shop.do([("breathe", "a", [("L-", 1)])])
        before = kinds(all_of(shop))
        for told in (shop.names(), shop.marks(), all_of(shop), shop.breathe("a", [("L-", 2)])):
            self.assertTrue(told)
            spoil(told)
        self.assertIs(shop.undo(), True)
        self.assertEqual(kinds(all_of(shop)), before)
        spoil(shop.do([("breathe", "a", [("R-", 2)])]))
        shop.undo()
        self.assertEqual(kinds(all_of(shop)[:5]), kinds(all_of(some_shop_and([("breathe", "a", [("L-", 1)])]))[:5]))

    def test_asking_changes_nothing(self):
        shop = some_shop()
        before = kinds(all_of(shop))
        for _ in range(2):
            self.assertEqual(kinds(all_of(shop)), before)
            self.assertTrue(shop == shop.twin())


class Deeds(unittest.TestCase):
    def test_build(self):
        shop = Shop()
        shop.build("a", ROOMS)
        shop.build("abcdef", [4])
        self.assertEqual(shop.names(), ["a", "abcdef"])
        self.assertTrue(shop.row_of("a") == Row(ROOMS))
        self.assertTrue(shop.row_of("abcdef") == Row((4,)))
        self.assertEqual((shop.ins("a"), shop.deeds(), len(shop)), (0, 2, 2))

    def test_raze(self):
        shop = Shop()
        shop.build("a", ROOMS)
        shop.build("b", ROOMS)
        shop.breathe("a", [("L+", 3)])
        shop.raze("a")
        self.assertEqual((shop.names(), len(shop)), (["b"], 1))
        shop.build("a", (9,))
        self.assertEqual((shop.row_of("a").rooms(), shop.ins("a"), len(shop.row_of("a"))), ((9,), 0, 0))

    def test_breathe(self):
        shop = Shop()
        shop.build("a", ROOMS)
        self.assertEqual(kinds(shop.breathe("a", [("L+", 4)])), kinds([]))
        self.assertEqual(shop.row_of("a").lies(), [[1, 0], [2], [3]])
        self.assertEqual(kinds(shop.breathe("a", [("R-", 2), ("L-", 3)])), kinds([3, 2, 1, 0, None]))
        self.assertEqual(shop.row_of("a").heard_at("right"), [None])
        self.assertEqual(shop.breathe("a", [("R+", 1), ("L+", 1), ("L-", 2), ("R-", 1)]), [5, 4, None])
        self.assertEqual(shop.ins("a"), 6)
        self.assertEqual(shop.breathe("a", []), [])
        self.assertEqual(shop.deeds(), 5)

    def test_numbers_of_slips_count_heard_ones(self):
        shop = Shop()
        shop.build("a", (1,))
        shop.breathe("a", [("L+", 2), ("R+", 1), ("L-", 1), ("L+", 1)])
        self.assertEqual((shop.row_of("a").lies(), shop.ins("a")), ([[3]], 4))
        self.assertEqual((shop.row_of("a").heard_at("right"), shop.row_of("a").heard_at("left")), ([1], [2]))

    def test_each_name_counts_its_own(self):
        shop = Shop()
        shop.build("a", (3,))
        shop.build("b", (3,))
        shop.breathe("a", [("R+", 2)])
        shop.breathe("b", [("R+", 1)])
        shop.breathe("a", [("R+", 1)])
        self.assertEqual((shop.row_of("a").lies(), shop.row_of("b").lies()), ([[0, 1, 2]], [[0]]))

    def test_numbers_behind_saw(self):
        shop = Shop()
        shop.build("a", (1, 1))
        shop.build("b", (1, 1))
        shop.breathe("a", [("L+", 2)])
        shop.breathe("b", [("L+", 3), ("L-", 1), ("L+", 1)])
        shop.saw("a", "b", 1)
        self.assertEqual((shop.row_of("a").lies(), shop.row_of("b").lies()), ([[0], [1]], [[3], [1]]))
        self.assertEqual((shop.ins("a"), shop.ins("b")), (2, 4))
        shop.saw("b", "a", 0)
        self.assertEqual((shop.row_of("a").lies(), shop.row_of("b").lies()), ([[3], [1]], [[0], [1]]))
        self.assertEqual((shop.ins("a"), shop.ins("b")), (2, 4))
        self.assertEqual(shop.row_of("b").heard_at("right"), [2])
        self.assertEqual(shop.breathe("a", [("L-", 1), ("L+", 1)]), [3])
        self.assertEqual(shop.row_of("a").lies(), [[2], [1]])

    def test_saw_exchanges_what_is_sealed(self):
        shop = Shop()
        shop.build("a", (1, 1))
        shop.build("b", (1, 1))
        shop.seal("a", 0)
        shop.seal("a", 1)
        shop.saw("a", "b", 1)
        self.assertEqual((shop.row_of("a").sealed(), shop.row_of("b").sealed()), ([0], [1]))

    def test_lengthen(self):
        shop = Shop()
        shop.build("a", (1, 2))
        shop.build("b", (1, 1))
        shop.breathe("a", [("L+", 4), ("R-", 1), ("L-", 2), ("L-", 1)])
        shop.breathe("b", [("R+", 3), ("L-", 1)])
        shop.breathe("b", [("L-", 2)])
        shop.breathe("b", [("R+", 1)])
        shop.seal("b", 1)
        shop.seal("a", 0)
        self.assertEqual(shop.row_of("b").heard_at("left"), [2])
        shop.lengthen("a", "b")
        self.assertEqual((shop.names(), shop.ins("a")), (["a"], 4))
        self.assertEqual(everything(shop.row_of("a")), [
            (1, 2, 1, 1), [[], [], [], [3]], (0, 0, 0, 1), [], [3, None], [0, 3], 1, "([0/1] 0/2 0/1 [1/1])"])
        shop.breathe("a", [("L+", 4)])
        self.assertEqual(shop.row_of("a").lies(), [[], [5, 4], [6], [3]])
        self.assertEqual(shop.row_of("a").heard_at("right"), [3, None, 7])
        shop.build("b", (1,))
        self.assertEqual(shop.ins("b"), 0)

    def test_seal_and_scrape(self):
        shop = Shop()
        shop.build("a", ROOMS)
        shop.seal("a", 0)
        shop.seal("a", 2)
        self.assertEqual(shop.row_of("a").sealed(), [0, 2])
        shop.breathe("a", [("L+", 2)])
        self.assertEqual((shop.row_of("a").lies(), shop.row_of("a").heard_at("right")), ([[], [0], []], [1]))
        shop.scrape("a", 0)
        self.assertEqual(shop.row_of("a").sealed(), [2])

    def test_a_row_told_is_its_own(self):
        shop = some_shop()
        before = kinds(all_of(shop))
        row = shop.row_of("a")
        self.assertIs(type(row), Row)
        row.breathe("L+", 99)
        row.breathe("R-")
        row.seal(0)
        shop.row_of("a").saw(row, 0)
        self.assertEqual(kinds(all_of(shop)), before)
        while shop.undo():
            pass
        self.assertEqual(all_of(shop)[:5], all_of(Shop())[:5])


class Refusals(unittest.TestCase):
    def assert_refused(self, error, shop, word, *things, **fields):
        """By the deed itself, and the same within do."""
        before = all_of(shop)
        due = {name: kinds(worth) for name, worth in fields.items()}
        for ask in [lambda: getattr(shop, word)(*things), lambda: shop.do([(word, *things)]),
                    lambda: shop.do([(word, *things)], whole=False)]:
            with self.assertRaises(error, msg=(word, things)) as caught:
                ask()
            self.assertIs(type(caught.exception), error)
            self.assertEqual({name: kinds(worth) for name, worth in vars(caught.exception).items()}, due)
            self.assertEqual(kinds(all_of(shop)[:5]), kinds(before[:5]))
        self.assertEqual(shop.marks(), before[5] + [("in", 1), ("out", 0)] * 2)
        self.assertIs(shop.is_open(), True)

    def shop(self):
        shop = some_shop()
        shop.build("d", (1, 1, 1))
        shop.build("e", (2, 2))
        shop.seal("d", 1)
        return shop

    def test_known(self):
        for name in ("a", "b", "d"):
            self.assert_refused(Known, self.shop(), "build", name, ROOMS, name=name)

    def test_bad_rooms(self):
        for rooms in NEITHER + [(0,), (1, 0), (-1,), (True,), (1, True), [True], ["1"], "12", {}, {1: 1}, [0], [[1]],
                                [1, None], ((1,),), None, (), []]:
            if not (isinstance(rooms, (list, tuple)) and rooms and all(type(room) is int and room > 0 for room in rooms)):
                self.assert_refused(BadRooms, self.shop(), "build", "x", rooms)

    def test_known_ahead_of_bad_rooms(self):
        for rooms in [(), None, (0,)]:
            self.assert_refused(Known, self.shop(), "build", "a", rooms, name="a")

    def test_a_list_is_rooms_here(self):
        shop = self.shop()
        shop.build("x", [1, 2])
        self.assertEqual(kinds(shop.row_of("x").rooms()), kinds((1, 2)))

    def test_no_row_of_every_deed(self):
        for word, *things in [("raze", "x"), ("breathe", "x", [("L+", 1)]), ("breathe", "x", []), ("seal", "x", 0),
                              ("scrape", "x", 0), ("saw", "x", "a", 0), ("saw", "a", "x", 0), ("lengthen", "x", "a"),
                              ("lengthen", "a", "x"), ("saw", "x", "x", 0), ("lengthen", "x", "x")]:
            self.assert_refused(NoRow, self.shop(), word, *things, name="x")
        self.assert_refused(NoRow, Shop(), "raze", "a", name="a")

    def test_no_row_of_the_first_name(self):
        for word, *things in [("saw", "x", "y", 0), ("lengthen", "x", "y")]:
            self.assert_refused(NoRow, self.shop(), word, *things, name="x")

    def test_no_row_ahead_of_the_others(self):
        for bellows in (0, 3, -1, 100):
            self.assert_refused(NoRow, self.shop(), "seal", "x", bellows, name="x")
            self.assert_refused(NoRow, self.shop(), "scrape", "x", bellows, name="x")
            self.assert_refused(NoRow, self.shop(), "saw", "a", "x", bellows, name="x")

    def test_no_row_of_asks(self):
        shop = self.shop()
        for ask in (shop.row_of, shop.ins):
            with self.assertRaises(NoRow) as caught:
                ask("x")
            self.assertEqual(caught.exception.name, "x")
        shop.raze("a")
        self.assertRaises(NoRow, shop.row_of, "a")
        self.assertRaises(NoRow, shop.ins, "a")

    def test_no_bellows(self):
        for bellows in (3, -1, -3, 12, 10 ** 12):
            self.assert_refused(NoBellows, self.shop(), "seal", "d", bellows, bellows=bellows)
            self.assert_refused(NoBellows, self.shop(), "scrape", "d", bellows, bellows=bellows)

    def test_sealed_and_open(self):
        self.assert_refused(Sealed, self.shop(), "seal", "d", 1, bellows=1)
        for bellows in (0, 2):
            self.assert_refused(Open, self.shop(), "scrape", "d", bellows, bellows=bellows)

    def test_saw(self):
        shop = self.shop()
        shop.build("f", (1, 1, 1))
        for gap in (0, 1, 3, 4, -1):
            self.assert_refused(Unlike, shop, "saw", "d", "d", gap)
            self.assert_refused(Unlike, shop, "saw", "d", "e", gap)
            self.assert_refused(Unlike, shop, "saw", "e", "a", gap)
        for gap in (-1, 4, 10 ** 12):
            self.assert_refused(NoGap, shop, "saw", "d", "f", gap, gap=gap)

    def test_lengthen(self):
        shop = Shop()
        for name, many in [("a", 6), ("b", 7), ("c", 12), ("d", 1), ("e", 6)]:
            shop.build(name, (1,) * many)
        self.assert_refused(TooLong, shop, "lengthen", "a", "b", many=13)
        self.assert_refused(TooLong, shop, "lengthen", "c", "d", many=13)
        self.assert_refused(TooLong, shop, "lengthen", "c", "b", many=19)
        for name in "abcde":
            # Of c, which would be too long too, Unlike is told first.
            self.assert_refused(Unlike, shop, "lengthen", name, name)
        shop.lengthen("a", "e")
        self.assertEqual(len(shop.row_of("a").rooms()), 12)
        self.assert_refused(TooLong, shop, "lengthen", "a", "d", many=13)


class Undo(unittest.TestCase):
    def test_of_each_kind_of_deed(self):
        for many in range(1, len(SOME) + 1):
            shop = made_anew(SOME[:many])
            self.assertIs(shop.undo(), True)
            due = made_anew(SOME[:many - 1])
            self.assertEqual(kinds(all_of(shop)), kinds(all_of(due)), SOME[many - 1])
            self.assertTrue(shop == due)

    def test_of_all_and_of_none(self):
        shop = some_shop()
        for many in range(len(SOME) - 1, -1, -1):
            self.assertIs(shop.undo(), True)
            self.assertEqual(kinds(all_of(shop)), kinds(all_of(made_anew(SOME[:many]))))
        self.assertIs(shop.undo(), False)
        self.assertIs(shop.undo(), False)
        self.assertEqual(kinds(all_of(shop)), kinds(all_of(Shop())))

    def test_done_again_behind_it(self):
        shop = some_shop()
        for many in range(1, len(SOME) + 1):
            for _ in range(many):
                shop.undo()
            for word, *things in SOME[len(SOME) - many:]:
                getattr(shop, word)(*things)
            self.assertEqual(kinds(all_of(shop)), kinds(all_of(some_shop())))

    def test_refused_deeds_are_none(self):
        shop = some_shop()
        self.assertRaises(Known, shop.build, "a", (1,))
        self.assertRaises(NoRow, shop.raze, "x")
        self.assertEqual(shop.deeds(), len(SOME))
        shop.undo()
        self.assertTrue(shop == made_anew(SOME[:-1]))

    def test_numbers_go_on_from_where_they_were(self):
        shop = Shop()
        shop.build("a", (9,))
        shop.breathe("a", [("R+", 2)])
        shop.breathe("a", [("R+", 3)])
        shop.undo()
        shop.breathe("a", [("R+", 1)])
        self.assertEqual((shop.row_of("a").lies(), shop.ins("a")), ([[0, 1, 2]], 3))

    def test_a_hundred_deeds(self):
        shop = Shop()
        shop.build("a", (99,) * 12)
        for _ in range(119):
            shop.breathe("a", [("L+", 5)])
        self.assertEqual(shop.deeds(), 120)
        for many in range(118, -1, -1):
            self.assertIs(shop.undo(), True)
            self.assertEqual((len(shop.row_of("a")), shop.ins("a"), shop.deeds()), (5 * many, 5 * many, many + 1))
        self.assertIs(shop.undo(), True)
        self.assertIs(shop.undo(), False)


class Do(unittest.TestCase):
    def test_whole(self):
        for whole in (True, False):
            shop = Shop()
            told = shop.do(SOME, whole=whole)
            due = Shop()
            self.assertEqual(kinds(told), kinds([getattr(due, word)(*things) for word, *things in SOME]))
            self.assertTrue(shop == due)
            self.assertEqual(kinds(all_of(shop)[:5]), kinds(all_of(due)[:5]))
            self.assertEqual(kinds(shop.marks()), kinds(
                [("in", len(SOME))] + [word for word, *_ in SOME] + [("out", len(SOME))]))
            self.assertIs(shop.is_open(), True)

    def test_deeds_of_their_own(self):
        shop = Shop()
        shop.do(SOME)
        for many in range(len(SOME) - 1, -1, -1):
            self.assertEqual(shop.deeds(), many + 1)
            shop.undo()
            self.assertEqual(kinds(all_of(shop)[:5]), kinds(all_of(made_anew(SOME[:many]))[:5]))

    def test_of_none(self):
        for deeds in ([], ()):
            shop = Shop()
            self.assertEqual(kinds(shop.do(deeds)), kinds([]))
            self.assertEqual(kinds(shop.do(deeds, whole=False)), kinds([]))
            self.assertEqual(kinds(shop.marks()), kinds([("in", 0), ("out", 0)] * 2))
            self.assertEqual(shop.deeds(), 0)

    def test_whole_with_one_refused(self):
        for at in range(len(SOME) + 1):
            shop = made_anew([("build", "z", (1,))])
            with self.assertRaises(NoBellows) as caught:
                shop.do(SOME[:at] + [("seal", "z", 7)] + SOME[at:])
            self.assertEqual(caught.exception.bellows, 7)
            due = made_anew([("build", "z", (1,))])
            self.assertEqual(kinds(all_of(shop)[:5]), kinds(all_of(due)[:5]))
            self.assertTrue(shop == due)
            self.assertEqual(kinds(shop.marks()), kinds(
                [("in", len(SOME) + 1)] + [word for word, *_ in SOME[:at]] + [("out", at)]))
            self.assertIs(shop.is_open(), True)
            self.assertIs(shop.undo(), True)
            self.assertIs(shop.undo(), False)

    def test_not_whole_with_one_refused(self):
        for at in range(len(SOME) + 1):
            shop = Shop()
            with self.assertRaises(NoRow) as caught:
                shop.do(SOME[:at] + [("raze", "zzz")] + SOME[at:], whole=False)
            self.assertEqual(caught.exception.name, "zzz")
            due = made_anew(SOME[:at])
            self.assertEqual(kinds(all_of(shop)[:5]), kinds(all_of(due)[:5]))
            self.assertEqual(kinds(shop.marks()), kinds(
                [("in", len(SOME) + 1)] + [word for word, *_ in SOME[:at]] + [("out", at)]))
            self.assertIs(shop.is_open(), True)
            for many in range(at - 1, -1, -1):
                self.assertIs(shop.undo(), True)
                self.assertTrue(shop == made_anew(SOME[:many]))
            self.assertIs(shop.undo(), False)

    def test_no_further_one_is_done(self):
        shop = Shop()
        with self.assertRaises(Known):
            shop.do([("build", "a", (1,)), ("build", "a", (2,)), ("build", "b", (1,)), ("raze", "x")], whole=False)
        self.assertEqual(shop.names(), ["a"])
        self.assertEqual(shop.row_of("a").rooms(), (1,))

    def test_bad_deeds(self):
        wrong = NEITHER + [
            ["build", "a", (1,)], ("build", "x"), ("build", "x", (1,), 1), ("build",), (), ("undo",), ("do", []),
            ("do", [("raze", "a")]), ("raze",), ("raze", "a", "b"), ("breathe", "a"), ("breathe", "a", [], 1),
            ("seal", "a"), ("seal", "a", 0, 0), ("scrape", "a"), ("saw", "a", "b"), ("saw", "a", "b", 1, 1),
            ("lengthen", "a"), ("lengthen", "a", "b", 1), ("names",), ("row_of", "a"), ("twin",), ("Build", "x", (1,)),
            ("build ", "x", (1,)), ("", "a"), (["raze"], "a"), (("raze", "a"),), (("raze",), "a"), (None, "a"),
            (True, "a"), (0, "a"), "raze", ["raze", "a"], ("is_open",), ("__init__",), ("found", "a"), ("ins", "a"),
            ("deed_done", "raze", ("a",))]
        for thing in wrong:
            for at in (0, 1, 3):
                for whole in (True, False):
                    shop = some_shop()
                    before = kinds(all_of(shop))
                    # A refusal that would be due ahead of it, and a bad deed behind it.
                    deeds = [("raze", "zzz"), ("raze", "a"), ("raze", "b")][:at] + [thing, ("raze", "b"), ()]
                    with self.assertRaises(BadDeed, msg=repr(thing)) as caught:
                        shop.do(deeds, whole=whole)
                    self.assertEqual(kinds(caught.exception.at), kinds(at))
                    self.assertEqual(kinds(all_of(shop)), before)

    def test_a_deed_of_bad_rooms_is_a_deed(self):
        shop = Shop()
        self.assertRaises(BadRooms, shop.do, [("build", "a", None)])
        self.assertEqual(shop.marks(), [("in", 1), ("out", 0)])

    def test_told_lists_are_the_askers_own(self):
        shop = made_anew([("build", "a", (3,))])
        told = shop.do([("breathe", "a", [("L+", 1)]), ("breathe", "a", [("L+", 1)]), ("breathe", "a", [("L-", 1)])])
        self.assertEqual(told, [[], [], [1]])
        told[0].append(5)
        self.assertEqual(told[1], [])


class Marks(unittest.TestCase):
    def test_all_behind_one_another(self):
        shop = Shop()
        shop.build("z", (1,))
        self.assertEqual(shop.marks(), [])
        shop.do([("build", "a", (1,)), ("breathe", "a", [("L+", 1)])])
        self.assertRaises(NoRow, shop.do, [("raze", "a"), ("raze", "a"), ("raze", "z")])
        self.assertRaises(NoRow, shop.do, [("raze", "a"), ("raze", "a"), ("raze", "z")], whole=False)
        self.assertRaises(BadDeed, shop.do, [("raze", "z"), ("undo",)])
        shop.do([])
        due = [("in", 2), "build", "breathe", ("out", 2), ("in", 3), "raze", ("out", 1), ("in", 3), "raze", ("out", 1),
               ("in", 0), ("out", 0)]
        self.assertEqual(kinds(shop.marks()), kinds(due))
        while shop.undo():
            self.assertEqual(shop.marks(), due)
        self.assertEqual(shop.marks(), due)
        self.assertEqual(shop.twin().marks(), due)


class IsOpen(unittest.TestCase):
    def test_while_a_do_is_at_work(self):
        seen = []

        class Watched(Shop):
            def build(self, name, rooms):
                seen.append(self.is_open())
                return Shop.build(self, name, rooms)

        shop = Watched()
        shop.build("a", (1,))
        self.assertEqual(seen, [True])
        shop.do([("build", "b", (1,)), ("build", "c", (1,))])
        self.assertEqual(seen, [True, False, False])
        self.assertIs(shop.is_open(), True)
        for whole in (True, False):
            self.assertRaises(Known, shop.do, [("build", "b", (1,))], whole=whole)
            self.assertIs(shop.is_open(), True)
        self.assertRaises(BadDeed, shop.do, [()])
        self.assertIs(shop.is_open(), True)
        self.assertIs(shop.twin().is_open(), True)


class Twin(unittest.TestCase):
    def test_goes_its_own_way(self):
        shop = Shop()
        shop.do(SOME)
        before = kinds(all_of(shop))
        twin = shop.twin()
        self.assertIs(type(twin), Shop)
        self.assertEqual(kinds(all_of(twin)), before)
        twin.breathe("a", [("L+", 3), ("R-", 2)])
        twin.do([("build", "x", (1,)), ("seal", "a", 0)])
        twin.raze("b")
        for _ in range(9):
            twin.undo()
        self.assertEqual(kinds(all_of(shop)), before)
        twin = shop.twin()
        shop.undo()
        shop.breathe("b", [("R+", 3)])
        shop.do([("raze", "b")])
        self.assertEqual(kinds(all_of(twin)), before)

    def test_what_can_be_undone_too(self):
        shop = some_shop()
        twin = shop.twin()
        while shop.undo():
            self.assertIs(twin.undo(), True)
            self.assertEqual(kinds(all_of(twin)), kinds(all_of(shop)))
        self.assertIs(twin.undo(), False)


class Equal(unittest.TestCase):
    def assert_equal(self, one, other, due):
        self.assertIs(one == other, due)
        self.assertIs(other == one, due)
        self.assertIs(one != other, not due)

    def test_whatever_was_undone_or_marked(self):
        shop = Shop()
        shop.do(SOME)
        self.assert_equal(shop, some_shop(), True)
        shop.raze("a")
        shop.undo()
        self.assert_equal(shop, some_shop(), True)
        self.assertRaises(NoRow, shop.do, [("raze", "a"), ("raze", "a")])
        self.assert_equal(shop, some_shop(), True)
        while shop.undo():
            pass
        self.assert_equal(shop, Shop(), True)
        one, other = made_anew([("build", "a", (1,)), ("build", "b", (2,))]), made_anew(
            [("build", "b", (2,)), ("seal", "b", 0), ("scrape", "b", 0), ("build", "a", [1])])
        self.assert_equal(one, other, True)

    def test_unlike_in_one_thing(self):
        shop = some_shop()
        for deed in [("raze", "a"), ("build", "x", (1,)), ("breathe", "a", [("L+", 1)]), ("seal", "a", 0),
                     ("breathe", "a", [("L+", 1), ("L-", 1)]), ("breathe", "b", [("L-", 1)])]:
            self.assert_equal(shop, some_shop_and([deed]), False)

    def test_unlike_in_how_many_ins_alone(self):
        # The same slip lies in both, but one of them brought another one and took it again.
        one, other = Shop(), Shop()
        for shop in (one, other):
            shop.build("a", (2,))
            shop.breathe("a", [("L+", 1)])
        other.breathe("a", [("L+", 1), ("L-", 1)])
        self.assertTrue(one.row_of("a") == other.row_of("a"))
        self.assert_equal(one, other, False)

    def test_unlike_in_names_alone(self):
        self.assert_equal(made_anew([("build", "a", (1,))]), made_anew([("build", "b", (1,))]), False)
        self.assert_equal(made_anew([("build", "a", (1,))]), Shop(), False)

    def test_to_nothing_else(self):
        shop = Shop()
        for thing in [None, True, False, 0, "", (), [], {}, object(), Shop, SlowShop(), all_of(shop), Row((1,))]:
            self.assert_equal(shop, thing, False)


class ByTheRule(unittest.TestCase):
    def some_deed(self, chance, names):
        """A deed, mostly of rows that are there, sometimes one that is refused."""
        word = chance.choice(["build"] * 4 + ["breathe"] * 6 + ["seal", "scrape"] * 2 + ["saw"] * 4 + ["lengthen", "raze"])
        one, other = [chance.choice(names * 4 + ["a", "b", "c", "d"]) for _ in range(2)]
        if word == "build":
            rooms = chance.choice([(2, 1, 3)] * 4 + [some_rooms(chance, chance.randint(1, 7), 4), [1, 2], (), (0,)])
            return word, chance.choice("abcd"), rooms
        if word == "raze":
            return word, one
        if word == "breathe":
            return word, one, [(chance.choice(BREATHS), chance.randint(1, 4)) for _ in range(chance.randint(0, 4))]
        if word == "saw":
            return word, one, other, chance.choice([0, 1, 2, 3, 4, -1])
        if word == "lengthen":
            return word, one, other
        return word, one, chance.choice([0, 1, 2, 0, 1, 2, 3, -1])

    def step(self, chance, shop, due):
        """One thing done to both, which must tell the same of it."""
        kind = chance.randrange(10)
        names = shop.names()
        if kind == 0:
            self.assertIs(shop.undo(), due.undo())
        elif kind == 1:
            deeds = [self.some_deed(chance, names) for _ in range(chance.randint(0, 5))]
            whole = chance.choice([True, False])
            self.assertEqual(kinds_of(told_or_refused(shop.do, deeds, whole=whole)),
                             kinds_of(told_or_refused(due.do, deeds, whole)))
        else:
            word, *things = self.some_deed(chance, names)
            self.assertEqual(kinds_of(told_or_refused(getattr(shop, word), *things)),
                             kinds_of(told_or_refused(due.deed, word, *things)), (word, things))

    def test_many_deeds(self):
        for seed in range(25):
            chance = random.Random(seed)
            shop, due = Shop(), SlowShop()
            for _ in range(120):
                self.step(chance, shop, due)
                self.assertEqual(kinds(all_of(shop)), kinds(due.everything()))

    def test_what_one_made_anew_tells(self):
        for seed in range(15):
            chance = random.Random(1000 + seed)
            shop, done = Shop(), []
            for _ in range(60):
                if chance.random() < 0.2:
                    self.assertIs(shop.undo(), bool(done))
                    del done[-1:]
                else:
                    deed = self.some_deed(chance, shop.names())
                    if told_or_refused(getattr(shop, deed[0]), *deed[1:])[0] == "told":
                        done.append(deed)
                anew = made_anew(done)
                self.assertTrue(shop == anew)
                self.assertEqual(kinds(all_of(shop)), kinds(all_of(anew)))

    def test_two_to_which_the_same_was_done(self):
        one, other = Shop(), Shop()
        chances = random.Random(5), random.Random(5)
        for _ in range(150):
            for shop, chance in zip((one, other), chances):
                deed = self.some_deed(chance, shop.names())
                told_or_refused(shop.do, [deed], whole=False)
            self.assertEqual(kinds(all_of(one)), kinds(all_of(other)))
            self.assertTrue(one == other)


if __name__ == "__main__":
    unittest.main()
