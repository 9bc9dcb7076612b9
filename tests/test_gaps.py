import random
import unittest

import slow
from breathrows.breaths import breathed, heard
from breathrows.errors import BadGap
from breathrows.gaps import aheads, at_gap, crossed, standing_by, winds
from breathrows.rows import lacking
from breathrows.words import contrary, nets, turned
from handed import Calls, kinds
from slow import BREATHS, all_standings, some_rooms, some_standing, some_word

GREAT = 10 ** 9
ROOMS = (2, 1, 3)
SMALL = [(1,), (3,), (1, 1), (2, 3), (3, 1), (2, 1, 2), (1, 3, 1), (1, 1, 1, 2)]
WORD = [("L+", 4), ("R-", 2), ("R+", 5), ("L-", 1)]

# By hand: the standing, the breath, the gaps over which it goes, and whether to the right.
CROSSINGS = [
    ((1, 1, 0), "L+", [0], True), ((1, 1, 0), "L-", [0], False),
    ((1, 1, 0), "R+", [3], False), ((1, 1, 0), "R-", [2, 3], True),
    ((2, 0, 0), "L+", [0, 1], True), ((2, 0, 0), "L-", [0], False),
    ((2, 0, 0), "R+", [3], False), ((2, 0, 0), "R-", [1, 2, 3], True),
    ((0, 0, 3), "L-", [0, 1, 2], False), ((0, 0, 3), "R+", [2, 3], False),
    ((0, 0, 3), "R-", [3], True), ((0, 1, 3), "R+", [1, 2, 3], False),
    ((2, 1, 0), "L+", [0, 1, 2], True), ((0, 1, 0), "L-", [0, 1], False),
    ((2, 1, 3), "L+", [0, 1, 2, 3], True), ((2, 1, 3), "R+", [0, 1, 2, 3], False),
    ((2, 1, 3), "L-", [0], False), ((2, 1, 3), "R-", [3], True),
    ((0, 0, 0), "L-", [0, 1, 2, 3], False), ((0, 0, 0), "R-", [0, 1, 2, 3], True),
    ((0, 0, 0), "L+", [0], True), ((0, 0, 0), "R+", [3], False),
]


class Interface(Calls, unittest.TestCase):
    CALLS = [
        (at_gap, {"rooms": ROOMS, "standing": (2, 0, 3), "gap": 0}, (0, 5)),
        (at_gap, {"rooms": ROOMS, "standing": (2, 0, 3), "gap": 1}, (2, 3)),
        (at_gap, {"rooms": ROOMS, "standing": (2, 0, 3), "gap": 3}, (5, 0)),
        (aheads, {"rooms": ROOMS, "standing": (2, 0, 3)}, [0, 2, 2, 5]),
        (standing_by, {"rooms": ROOMS, "numbers": [0, 2, 2, 5]}, (2, 0, 3)),
        # L+ 4 from (1, 0, 0) to (2, 1, 2), R- 2 to (2, 1, 0), R+ 5 to (2, 1, 3) with two heard, L- to (1, 1, 3).
        (crossed, {"rooms": ROOMS, "standing": (1, 0, 0), "word": WORD, "gap": 0}, (4, 3)),
        (crossed, {"rooms": ROOMS, "standing": (1, 0, 0), "word": WORD, "gap": 1}, (3, 2)),
        (crossed, {"rooms": ROOMS, "standing": (1, 0, 0), "word": WORD, "gap": 2}, (2, 2)),
        (crossed, {"rooms": ROOMS, "standing": (1, 0, 0), "word": WORD, "gap": 3}, (2, 5)),
        (crossed, {"rooms": ROOMS, "standing": (1, 0, 0), "word": [], "gap": 2}, (0, 0)),
        (winds, {"rooms": ROOMS, "standing": (1, 0, 0), "word": WORD}, [1, 1, 0, -3]),
        (winds, {"rooms": ROOMS, "standing": (1, 0, 0), "word": []}, [0, 0, 0, 0]),
    ]


class Aheads(unittest.TestCase):
    def test_all_standings_of_small_rows(self):
        for rooms in SMALL:
            for standing in all_standings(rooms):
                pairs = [at_gap(rooms, standing, gap) for gap in range(len(rooms) + 1)]
                self.assertEqual(pairs, [(sum(standing[:gap]), sum(standing[gap:])) for gap in range(len(rooms) + 1)])
                self.assertEqual(aheads(rooms, standing), [ahead for ahead, behind in pairs])

    def test_standing_by_is_the_way_back(self):
        for rooms in SMALL:
            for standing in all_standings(rooms):
                told = standing_by(rooms, aheads(rooms, standing))
                self.assertEqual(kinds(told), kinds(standing))

    def test_the_last_number_may_be_all_the_room(self):
        rooms = (99,) * 12
        self.assertEqual(standing_by(rooms, [99 * gap for gap in range(13)]), rooms)
        self.assertEqual(aheads(rooms, rooms), [99 * gap for gap in range(13)])


class BadGaps(unittest.TestCase):
    def assert_bad(self, rooms, numbers, gap):
        for shape in (list, tuple):
            with self.assertRaises(BadGap) as caught:
                standing_by(rooms, shape(numbers))
            self.assertEqual(kinds(caught.exception.gap), kinds(gap))
            self.assertIsInstance(caught.exception, ValueError)

    def test_the_first_number_not_nought(self):
        for first in (1, -1, 2, 10 ** 12, -10 ** 12):
            self.assert_bad(ROOMS, [first, 2, 2, 5], 0)
            self.assert_bad(ROOMS, [first, first, first, first], 0)

    def test_one_that_is_less(self):
        self.assert_bad(ROOMS, [0, -1, 0, 0], 1)
        self.assert_bad(ROOMS, [0, 2, 1, 2], 2)
        self.assert_bad(ROOMS, [0, 2, 2, 1], 3)
        self.assert_bad(ROOMS, [0, 2, 2, -10 ** 12], 3)

    def test_one_that_is_too_great(self):
        self.assert_bad(ROOMS, [0, 3, 3, 3], 1)
        self.assert_bad(ROOMS, [0, 2, 4, 4], 2)
        self.assert_bad(ROOMS, [0, 1, 1, 5], 3)
        self.assert_bad(ROOMS, [0, 1, 1, 10 ** 12], 3)

    def test_two_at_once(self):
        self.assert_bad(ROOMS, [1, 9, 0, 0], 0)
        self.assert_bad(ROOMS, [0, 3, 2, 9], 1)
        self.assert_bad(ROOMS, [0, 2, 1, 9], 2)
        # What follows one that's too great is as it may be; still the first is told.
        self.assert_bad(ROOMS, [0, 5, 6, 7], 1)

    def test_all_lists_of_small_numbers(self):
        rooms = (1, 2)
        by_aheads = {tuple(aheads(rooms, standing)): standing for standing in all_standings(rooms)}
        for first in range(-1, 3):
            for second in range(-2, 4):
                for third in range(-2, 6):
                    numbers = (first, second, third)
                    if numbers in by_aheads:
                        self.assertEqual(standing_by(rooms, numbers), by_aheads[numbers])
                        continue
                    begun = [told[:2] for told in by_aheads]
                    gap = 0 if first != 0 else 1 if numbers[:2] not in begun else 2
                    self.assert_bad(rooms, numbers, gap)


class Crossed(unittest.TestCase):
    def test_each_breath_over_each_gap_by_hand(self):
        for standing, breath, gaps, to_right in CROSSINGS:
            for gap in range(4):
                once = 1 if gap in gaps else 0
                due = (once, 0) if to_right else (0, once)
                told = crossed(ROOMS, standing, [(breath, 1)], gap)
                self.assertEqual(kinds(told), kinds(due), (standing, breath, gap))

    def test_winds_of_each_breath_by_hand(self):
        for standing, breath, gaps, to_right in CROSSINGS:
            sign = 1 if to_right else -1
            due = [sign if gap in gaps else 0 for gap in range(4)]
            self.assertEqual(kinds(winds(ROOMS, standing, [(breath, 1)])), kinds(due), (standing, breath))

    def test_from_all_standings_of_small_rows(self):
        chance = random.Random(21)
        for rooms in SMALL:
            words = [[(breath, many)] for breath in BREATHS for many in (1, 4)]
            words += [some_word(chance, runs, 5) for runs in (2, 3, 6) for _ in range(3)]
            for standing in all_standings(rooms):
                for word in words:
                    self.assertEqual(winds(rooms, standing, word), slow.winds(rooms, standing, word))
                    for gap in range(len(rooms) + 1):
                        due = slow.crossed(rooms, standing, word, gap)
                        self.assertEqual(crossed(rooms, standing, word, gap), due)

    def test_great_runs(self):
        rooms = (99,) * 12
        word = [("L+", GREAT), ("R+", GREAT), ("L-", GREAT), ("R-", GREAT)]
        for gap in range(13):
            # All but the L+, the L- that land ahead of the gap go over it; R+, R- are all heard.
            due = (GREAT - 99 * gap + GREAT, GREAT + GREAT - 99 * gap)
            self.assertEqual(crossed(rooms, (0,) * 12, word, gap), due)
        self.assertEqual(winds(rooms, (0,) * 12, word), [0] * 13)
        self.assertEqual(winds(rooms, (0,) * 12, word[:1]), [GREAT - 99 * gap for gap in range(13)])
        self.assertEqual(winds(rooms, (0,) * 12, word[1:2]), [99 * (12 - gap) - GREAT for gap in range(13)])

    def test_what_lies_ahead_by_the_wind(self):
        chance = random.Random(22)
        for _ in range(300):
            rooms = some_rooms(chance, chance.randint(1, 12), 99)
            standing = some_standing(chance, rooms)
            word = some_word(chance, chance.randint(0, 12), chance.choice([5, 300, GREAT]))
            told = winds(rooms, standing, word)
            slips, gasps, _, _ = heard(rooms, standing, word)
            before = aheads(rooms, standing)
            behind = aheads(rooms, breathed(rooms, standing, word))
            for gap in range(len(rooms) + 1):
                to_right, to_left = crossed(rooms, standing, word, gap)
                self.assertEqual(told[gap], to_right - to_left)
                self.assertEqual(behind[gap] - before[gap], nets(word)[0] - told[gap] - slips + gasps)

    def test_the_ends(self):
        chance = random.Random(23)
        for _ in range(100):
            rooms = some_rooms(chance, chance.randint(1, 6), 9)
            standing = some_standing(chance, rooms)
            word = some_word(chance, 6, 20)
            slips_left, gasps_left, slips_right, gasps_right = heard(rooms, standing, word)
            ins = sum(many for breath, many in word if breath == "L+")
            outs = sum(many for breath, many in word if breath == "L-")
            self.assertEqual(crossed(rooms, standing, word, 0), (ins + gasps_left, outs + slips_left))
            ins = sum(many for breath, many in word if breath == "R+")
            outs = sum(many for breath, many in word if breath == "R-")
            self.assertEqual(crossed(rooms, standing, word, len(rooms)), (outs + slips_right, ins + gasps_right))

    def test_turned_about_and_counterparts(self):
        chance = random.Random(24)
        for _ in range(100):
            rooms = some_rooms(chance, chance.randint(1, 12), 99)
            standing = some_standing(chance, rooms)
            word = some_word(chance, 6, 500)
            for gap in range(len(rooms) + 1):
                told = crossed(rooms, standing, word, gap)
                other = crossed(rooms[::-1], standing[::-1], turned(word), len(rooms) - gap)
                self.assertEqual(other, told[::-1])
                other = crossed(rooms, lacking(rooms, standing), contrary(word), gap)
                self.assertEqual(other, told[::-1])


class TwoBellows(unittest.TestCase):
    def test_at_each_gap_a_row_is_just_two_bellows(self):
        chance = random.Random(25)
        for _ in range(200):
            rooms = some_rooms(chance, chance.randint(2, 12), 20)
            standing = some_standing(chance, rooms)
            word = some_word(chance, 8, 60)
            behind = breathed(rooms, standing, word)
            for gap in range(1, len(rooms)):
                two = (sum(rooms[:gap]), sum(rooms[gap:]))
                pair = at_gap(rooms, standing, gap)
                self.assertEqual(breathed(two, pair, word), at_gap(rooms, behind, gap))
                self.assertEqual(crossed(two, pair, word, 1), crossed(rooms, standing, word, gap))
                self.assertEqual(heard(two, pair, word), heard(rooms, standing, word))


if __name__ == "__main__":
    unittest.main()
