import itertools
import math
import random
import unittest

import slow
from breathrows.breaths import breathed
from breathrows.gaps import crossed
from breathrows.names import depths, first_over, is_name, led_by, name_of, named_so, with_turn
from breathrows.rows import bare, full, how_many
from handed import Calls, as_tuples, kinds
from slow import all_standings, some_rooms, some_standing
from things import NEITHER, nested

GREAT = 10 ** 9
ROOMS = (2, 1, 3)
SMALL = [(1,), (3,), (1, 1), (2, 3), (3, 1), (2, 1, 2), (1, 3, 1), (1, 1, 1, 2), (2, 1, 2, 1), (1, 1, 1, 1, 1)]
MANY_BELLOWS = (99, 1, 50, 2, 7, 99, 98, 1, 1, 30, 64, 99)

# By hand in ROOMS: the standing, its name, its depths.
NAMES = [
    ((0, 0, 0), [], []),
    ((1, 0, 0), [1], [0]),
    ((2, 0, 0), [2], [0]),
    ((2, 1, 0), [3], [1]),
    ((2, 1, 3), [6], [2]),
    ((0, 1, 0), [3, 2], [1, 0]),
    ((1, 1, 0), [3, 1], [1, 0]),
    ((0, 0, 1), [4, 3], [2, 1]),
    ((1, 0, 1), [4, 3, 1], [2, 1, 0]),
    ((2, 0, 3), [6, 3, 2], [2, 1, 0]),
    ((0, 1, 2), [5, 2], [2, 0]),
]


def by_layers(rooms):
    """Each standing's turns, by the left hand's breaths gone one by one from the bare row."""
    told = {}
    for standing, words in slow.layers(rooms, bare(rooms), ("L+", "L-")).items():
        assert len(words) == 1, (rooms, standing, words)
        told[standing] = [many for _, many in slow.runs_of(words[0])]
    return told


def turned_word(turns):
    return [("L-" if at % 2 else "L+", many) for at, many in enumerate(turns)]


def last_landings(rooms, turns):
    """Where, turn by turn, the last breath lands, None where it's heard."""
    told = []
    for many in range(len(turns)):
        before = slow.behind(rooms, bare(rooms), turned_word(turns[:many]))
        told.append(slow.landings(rooms, before, turned_word(turns)[many:many + 1])[-1][1])
    return told


def falls(numbers):
    return all(one > other for one, other in zip(numbers, numbers[1:]))


class Interface(Calls, unittest.TestCase):
    CALLS = [
        (led_by, {"rooms": ROOMS, "turns": [4, 3, 1]}, (1, 0, 1)),
        (led_by, {"rooms": ROOMS, "turns": []}, (0, 0, 0)),
        (name_of, {"rooms": ROOMS, "standing": (1, 0, 1)}, [4, 3, 1]),
        (name_of, {"rooms": ROOMS, "standing": (0, 0, 0)}, []),
        (depths, {"rooms": ROOMS, "standing": (1, 0, 1)}, [2, 1, 0]),
        (depths, {"rooms": ROOMS, "standing": (0, 0, 0)}, []),
        (named_so, {"rooms": ROOMS, "many": 2}, 11),
        (named_so, {"rooms": ROOMS, "many": 0}, 1),
        (first_over, {"rooms": ROOMS, "standing": (1, 0, 1), "gap": 2}, (3, 2)),
        (with_turn, {"rooms": ROOMS, "turns": [4, 3], "many": 1}, [4, 3, 1]),
        (with_turn, {"rooms": ROOMS, "turns": [], "many": GREAT}, [6]),
    ]

    def test_is_name_by_places_and_by_names(self):
        self.assertIs(is_name(ROOMS, [4, 3, 1]), True)
        self.assertIs(is_name(rooms=ROOMS, thing=[4, 3, 1]), True)
        self.assertIs(is_name(thing=[4, 4, 1], rooms=list(ROOMS)), False)
        self.assertIs(is_name(list(ROOMS), []), True)

    def test_is_name_keeps_and_changes_nothing(self):
        rooms, thing = [2, 1, 3], [4, 3, 1]
        is_name(rooms, thing)
        self.assertEqual((rooms, thing), ([2, 1, 3], [4, 3, 1]))

    def test_no_two_told_lists_are_one(self):
        turns = [4, 3]
        self.assertIsNot(name_of(ROOMS, (1, 0, 1)), name_of(ROOMS, (1, 0, 1)))
        with_turn(ROOMS, turns, 2).append(5)
        self.assertEqual(turns, [4, 3])


class Names(unittest.TestCase):
    def test_by_hand(self):
        for standing, turns, landings in NAMES:
            self.assertEqual(kinds(name_of(ROOMS, standing)), kinds(turns))
            self.assertEqual(kinds(depths(ROOMS, standing)), kinds(landings))
            self.assertEqual(kinds(led_by(ROOMS, turns)), kinds(standing))
            self.assertIs(is_name(ROOMS, turns), True)

    def test_each_standing_has_just_one_name_by_layers(self):
        for rooms in SMALL:
            told = by_layers(rooms)
            self.assertEqual(sorted(told), all_standings(rooms))
            self.assertEqual(len(set(map(tuple, told.values()))), how_many(rooms))
            for standing, turns in told.items():
                self.assertEqual(kinds(name_of(rooms, standing)), kinds(turns), (rooms, standing))
                self.assertEqual(led_by(rooms, turns), standing)
                self.assertIs(is_name(rooms, turns), True)
                self.assertEqual(kinds(depths(rooms, standing)), kinds(last_landings(rooms, turns)))
                self.assertTrue(falls(turns) and falls(depths(rooms, standing)), (rooms, standing))

    def test_bare_and_full(self):
        for rooms in SMALL + [(99,) * 12, MANY_BELLOWS]:
            self.assertEqual(name_of(rooms, bare(rooms)), [])
            self.assertEqual(depths(rooms, bare(rooms)), [])
            self.assertEqual(name_of(rooms, full(rooms)), [sum(rooms)])
            self.assertEqual(depths(rooms, full(rooms)), [len(rooms) - 1])

    def test_great_rows(self):
        chance = random.Random(71)
        for _ in range(200):
            rooms = some_rooms(chance, 12, 99)
            standing = tuple(chance.choice([0, room, chance.randint(0, room)]) for room in rooms)
            turns = name_of(rooms, standing)
            self.assertEqual(breathed(rooms, bare(rooms), turned_word(turns)), standing)
            self.assertEqual(led_by(rooms, turns), standing)
            self.assertEqual(depths(rooms, standing), last_landings(rooms, turns))
            self.assertTrue(falls(turns) and falls(depths(rooms, standing)))
            self.assertIs(is_name(rooms, turns), True)

    def test_every_other_bellows_full(self):
        rooms = (99,) * 12
        standing = (0, 99) * 6
        self.assertEqual(name_of(rooms, standing), [99 * many for many in range(12, 0, -1)])
        self.assertEqual(depths(rooms, standing), list(range(11, -1, -1)))


class LedBy(unittest.TestCase):
    def test_by_breaths_gone_one_by_one(self):
        for rooms in SMALL[:7]:
            for length in range(4):
                for turns in itertools.product(range(1, sum(rooms) + 2), repeat=length):
                    due = slow.behind(rooms, bare(rooms), turned_word(turns))
                    self.assertEqual(kinds(led_by(rooms, list(turns))), kinds(due))

    def test_great_turns_at_once(self):
        rooms = (99,) * 12
        self.assertEqual(led_by(rooms, [GREAT]), rooms)
        self.assertEqual(led_by(rooms, [GREAT, GREAT]), bare(rooms))
        self.assertEqual(led_by(rooms, [GREAT, 100, GREAT]), rooms)
        self.assertEqual(led_by(rooms, [GREAT, 100, 50]), (50, 98) + (99,) * 10)
        self.assertEqual(led_by(rooms, [GREAT, GREAT - 1] * 30), bare(rooms))
        self.assertEqual(led_by(rooms, [10 ** 12] * 59), rooms)


class IsName(unittest.TestCase):
    def test_all_short_lists_of_turns(self):
        for rooms in [(1,), (3,), (1, 1), (2, 2), (2, 1, 1), (1, 2, 1)]:
            names = list(by_layers(rooms).values())
            for length in range(len(rooms) + 2):
                for turns in itertools.product(range(1, sum(rooms) + 3), repeat=length):
                    turns = list(turns)
                    self.assertIs(is_name(rooms, turns), turns in names, (rooms, turns))

    def test_just_those_whose_turns_and_depths_fall(self):
        for rooms in [(3,), (1, 1), (2, 2), (2, 1, 1), (1, 2, 1)]:
            for length in range(len(rooms) + 2):
                for turns in itertools.product(range(1, sum(rooms) + 3), repeat=length):
                    landings = last_landings(rooms, turns)
                    due = None not in landings and falls(landings) and falls(turns)
                    self.assertIs(is_name(rooms, list(turns)), due, (rooms, turns))

    def test_near_misses(self):
        chance = random.Random(72)
        for _ in range(60):
            rooms = some_rooms(chance, chance.randint(1, 6), 9)
            turns = name_of(rooms, some_standing(chance, rooms))
            self.assertIs(is_name(rooms, turns), True)
            wrong = [tuple(turns), [turns], (turns,), turns + [0], [0] + turns, turns + [-1], turns + [None],
                     turns + ["1"], turns + [True], turns + [False], turns + [[1]], turns + [sum(rooms) + 1],
                     [sum(rooms) + 1] + turns, as_tuples([turns])]
            for at in range(len(turns)):
                for worth in (None, True, False, str(turns[at]), [turns[at]], (turns[at],), 0, -turns[at],
                              10 ** 30, -10 ** 30):
                    wrong.append(turns[:at] + [worth] + turns[at + 1:])
                wrong.append(turns[:at] + [turns[at]] + turns[at:])
            for thing in wrong:
                self.assertIs(is_name(rooms, thing), False, (rooms, thing))

    def test_true_for_one(self):
        self.assertIs(is_name((3,), [1]), True)
        self.assertIs(is_name((3,), [True]), False)
        self.assertIs(is_name((3, 3), [4, 1]), True)
        self.assertIs(is_name((3, 3), [4, True]), False)

    def test_turns_out_of_reach(self):
        self.assertIs(is_name((3,), [3]), True)
        self.assertIs(is_name((3,), [4]), False)
        self.assertIs(is_name((99,) * 12, [GREAT]), False)
        self.assertIs(is_name((99,) * 12, [1188, GREAT]), False)
        self.assertIs(is_name((99,) * 12, [10 ** 12] * 60), False)
        self.assertIs(is_name((99,) * 12, [1188]), True)

    def test_things_of_every_kind(self):
        for rooms in [(1,), ROOMS, (99,) * 12]:
            names = [[]] + [[many] for many in range(1, sum(rooms) + 1)]
            for thing in NEITHER + ["[]", "[1]"]:
                due = any(kinds(thing) == kinds(turns) for turns in names)
                self.assertIs(is_name(rooms, thing), due, (rooms, thing))
            for depth in range(1, 8):
                for kind in (list, tuple):
                    self.assertIs(is_name(rooms, nested([1], kind, depth)), False)
                    self.assertIs(is_name(rooms, nested([], kind, depth)), False)
            self.assertIs(is_name(rooms, ()), False)


class NamedSo(unittest.TestCase):
    def test_by_hand(self):
        self.assertEqual([named_so(ROOMS, many) for many in range(5)], [1, 6, 11, 6, 0])
        self.assertEqual([named_so((1,), many) for many in range(3)], [1, 1, 0])

    def test_small_rows_gone_through_whole(self):
        for rooms in SMALL:
            sizes = [len(turns) for turns in by_layers(rooms).values()]
            for many in range(len(rooms) + 4):
                self.assertEqual(kinds(named_so(rooms, many)), kinds(sizes.count(many)))

    def test_great_rows(self):
        rooms = (99,) * 12
        for many in range(13):
            self.assertEqual(named_so(rooms, many), math.comb(12, many) * 99 ** many)
        self.assertEqual(sum(named_so(MANY_BELLOWS, many) for many in range(13)), how_many(MANY_BELLOWS))
        for many in (13, 14, 100, 10 ** 12):
            self.assertEqual(named_so(rooms, many), 0)
        self.assertEqual(named_so(rooms, -1), 0)


class FirstOver(unittest.TestCase):
    def first(self, rooms, standing, breath, gap):
        for many, (_, at) in enumerate(slow.landings(rooms, standing, [(breath, sum(rooms) + 2)]), start=1):
            if at is None or at >= gap:
                return many

    def test_by_hand(self):
        self.assertEqual([first_over(ROOMS, (1, 0, 1), gap) for gap in range(4)], [(1, 1), (2, 2), (3, 2), (5, 3)])
        self.assertEqual([first_over(ROOMS, (0, 0, 0), gap) for gap in range(4)], [(1, 1), (3, 1), (4, 1), (7, 1)])
        self.assertEqual([first_over(ROOMS, (2, 1, 3), gap) for gap in range(4)], [(1, 1), (1, 3), (1, 4), (1, 7)])

    def test_small_rows_gone_through_whole(self):
        for rooms in SMALL:
            for standing in all_standings(rooms):
                for gap in range(len(rooms) + 1):
                    due = tuple(self.first(rooms, standing, breath, gap) for breath in ("L+", "L-"))
                    self.assertEqual(kinds(first_over(rooms, standing, gap)), kinds(due))

    def test_by_what_goes_over_the_gap(self):
        chance = random.Random(73)
        for _ in range(100):
            rooms = some_rooms(chance, 12, 99)
            standing = some_standing(chance, rooms)
            for gap in range(13):
                into, out = first_over(rooms, standing, gap)
                self.assertEqual(crossed(rooms, standing, [("L+", into)], gap), (1, 0))
                self.assertEqual(crossed(rooms, standing, [("L-", out)], gap), (0, 1))


class WithTurn(unittest.TestCase):
    def test_by_hand(self):
        self.assertEqual(with_turn(ROOMS, [], 3), [3])
        self.assertEqual(with_turn(ROOMS, [3], 1), [3, 1])
        self.assertEqual(with_turn(ROOMS, [3], 3), [])
        self.assertEqual(with_turn(ROOMS, [3], GREAT), [])
        self.assertEqual(with_turn(ROOMS, [4, 3], 3), [4])
        self.assertEqual(with_turn(ROOMS, [4, 3], 4), [5])
        self.assertEqual(with_turn(ROOMS, [4, 3], GREAT), [6])
        self.assertEqual(with_turn(ROOMS, (4, 3, 1), 1), [4, 3])

    def test_behind_each_name_of_small_rows(self):
        for rooms in SMALL:
            names = by_layers(rooms)
            for standing, turns in names.items():
                for many in range(1, sum(rooms) + 3):
                    more = turned_word(turns + [many])[-1:]
                    due = names[slow.behind(rooms, standing, more)]
                    self.assertEqual(kinds(with_turn(rooms, turns, many)), kinds(due), (rooms, turns, many))

    def test_great_rows_at_once(self):
        chance = random.Random(74)
        for _ in range(100):
            rooms = some_rooms(chance, 12, 99)
            standing = some_standing(chance, rooms)
            turns = name_of(rooms, standing)
            for many in (1, chance.randint(1, sum(rooms)), GREAT, 10 ** 12):
                breath = "L-" if len(turns) % 2 else "L+"
                due = name_of(rooms, breathed(rooms, standing, [(breath, many)]))
                self.assertEqual(with_turn(rooms, turns, many), due)


if __name__ == "__main__":
    unittest.main()
