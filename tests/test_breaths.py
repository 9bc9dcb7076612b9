import random
import unittest

import slow
from breathrows.breaths import breathed, heard, lands
from breathrows.rows import bare, full, is_standing, lacking
from breathrows.words import begun, contrary, plain, size_of, turned
from handed import Calls, kinds
from slow import BREATHS, all_standings, breaths_of, some_rooms, some_standing, some_word

GREAT = 10 ** 9
ROOMS = (2, 1, 3)
SMALL = [(1,), (3,), (1, 1), (2, 3), (3, 1), (2, 1, 2), (1, 3, 1), (1, 1, 1, 2)]

# By hand: the standing, and where L+, L-, R+, R- land.
LANDINGS = [
    ((0, 0, 0), [0, None, 2, None]),
    ((2, 1, 3), [None, 0, None, 2]),
    ((1, 1, 0), [0, 0, 2, 1]),
    ((2, 0, 0), [1, 0, 2, 0]),
    ((2, 1, 0), [2, 0, 2, 1]),
    ((0, 0, 3), [0, 2, 1, 2]),
    ((0, 1, 3), [0, 1, 0, 2]),
    ((0, 1, 0), [0, 1, 2, 1]),
    ((2, 0, 3), [1, 0, 1, 2]),
    ((2, 1, 2), [2, 0, 2, 2]),
    ((1, 1, 3), [0, 0, 0, 2]),
]
MIXED = [("L+", 3), ("R+", 2), ("L-", 5), ("R-", 1)]


class Interface(Calls, unittest.TestCase):
    CALLS = [
        (lands, {"rooms": ROOMS, "standing": (2, 0, 0), "breath": "L+"}, 1),
        (lands, {"rooms": ROOMS, "standing": (2, 0, 0), "breath": "R-"}, 0),
        (lands, {"rooms": ROOMS, "standing": (0, 0, 0), "breath": "R-"}, None),
        (breathed, {"rooms": ROOMS, "standing": (1, 1, 0), "word": [("L+", 2), ("R-", 1), ("R+", 2)]}, (2, 1, 2)),
        (breathed, {"rooms": ROOMS, "standing": (1, 1, 0), "word": []}, (1, 1, 0)),
        (heard, {"rooms": (1, 1), "standing": (0, 0), "word": MIXED}, (2, 1, 1, 3)),
        (heard, {"rooms": (1, 1), "standing": (0, 0), "word": []}, (0, 0, 0, 0)),
    ]


class Lands(unittest.TestCase):
    def test_by_hand(self):
        for standing, due in LANDINGS:
            told = [lands(ROOMS, standing, breath) for breath in BREATHS]
            self.assertEqual(kinds(told), kinds(due), standing)

    def test_all_standings_of_small_rows(self):
        for rooms in SMALL:
            for standing in all_standings(rooms):
                for breath in BREATHS:
                    due = slow.breath_done(rooms, list(standing), breath)
                    self.assertEqual(kinds(lands(rooms, standing, breath)), kinds(due))

    def test_twelve_bellows(self):
        rooms = (99,) * 12
        self.assertEqual(lands(rooms, (99,) * 11 + (98,), "L+"), 11)
        self.assertEqual(lands(rooms, (98,) + (99,) * 11, "R+"), 0)
        self.assertEqual(lands(rooms, (0,) * 11 + (1,), "L-"), 11)
        self.assertEqual(lands(rooms, (1,) + (0,) * 11, "R-"), 0)


class Breathed(unittest.TestCase):
    def test_one_breath_by_hand(self):
        for standing, landings in LANDINGS:
            for breath, at in zip(BREATHS, landings):
                due = list(standing)
                if at is not None:
                    due[at] += 1 if breath[1] == "+" else -1
                self.assertEqual(kinds(breathed(ROOMS, standing, [(breath, 1)])), kinds(tuple(due)))

    def test_one_breath_heard_by_hand(self):
        places = {"R+": 0, "R-": 1, "L+": 2, "L-": 3}
        for standing, landings in LANDINGS:
            for breath, at in zip(BREATHS, landings):
                due = [0, 0, 0, 0]
                due[places[breath]] = 1 if at is None else 0
                self.assertEqual(kinds(heard(ROOMS, standing, [(breath, 1)])), kinds(tuple(due)))

    def test_runs_by_hand(self):
        self.assertEqual(breathed(ROOMS, (0, 0, 0), [("L+", 4)]), (2, 1, 1))
        self.assertEqual(breathed(ROOMS, (0, 0, 0), [("R+", 4)]), (0, 1, 3))
        self.assertEqual(breathed(ROOMS, (2, 1, 3), [("L-", 4)]), (0, 0, 2))
        self.assertEqual(breathed(ROOMS, (2, 1, 3), [("R-", 4)]), (2, 0, 0))
        self.assertEqual(breathed(ROOMS, (1, 0, 2), [("L+", 3)]), (2, 1, 3))
        self.assertEqual(heard(ROOMS, (1, 0, 2), [("L+", 3)]), (0, 0, 0, 0))
        self.assertEqual(heard(ROOMS, (1, 0, 2), [("L+", 5)]), (0, 0, 2, 0))
        self.assertEqual(heard(ROOMS, (1, 0, 2), [("R+", 5)]), (2, 0, 0, 0))
        self.assertEqual(heard(ROOMS, (1, 0, 2), [("L-", 5)]), (0, 0, 0, 2))
        self.assertEqual(heard(ROOMS, (1, 0, 2), [("R-", 5)]), (0, 2, 0, 0))

    def test_from_all_standings_of_small_rows(self):
        chance = random.Random(11)
        for rooms in SMALL:
            words = [some_word(chance, runs, 5) for runs in (1, 2, 3, 5, 8) for _ in range(4)]
            for standing in all_standings(rooms):
                for word in words:
                    told = breathed(rooms, standing, word)
                    self.assertEqual(told, slow.behind(rooms, standing, word))
                    self.assertIs(is_standing(rooms, told), True)
                    self.assertEqual(heard(rooms, standing, word), slow.heard(rooms, standing, word))

    def test_a_long_word_breath_by_breath_and_in_runs(self):
        chance = random.Random(12)
        for _ in range(10):
            rooms = some_rooms(chance, 12, 9)
            standing = some_standing(chance, rooms)
            word = some_word(chance, 40, 60)
            single = [(breath, 1) for breath in breaths_of(word)]
            self.assertEqual(breathed(rooms, standing, word), slow.behind(rooms, standing, word))
            self.assertEqual(breathed(rooms, standing, single), slow.behind(rooms, standing, word))
            self.assertEqual(breathed(rooms, standing, plain(word)), slow.behind(rooms, standing, word))
            for told in (heard(rooms, standing, word), heard(rooms, standing, single)):
                self.assertEqual(told, slow.heard(rooms, standing, word))

    def test_in_two_parts(self):
        chance = random.Random(13)
        for _ in range(100):
            rooms = some_rooms(chance, 5, 6)
            standing = some_standing(chance, rooms)
            word = some_word(chance, 6, 9)
            first = begun(word, chance.randint(0, size_of(word)))
            rest = breaths_of(word)[size_of(first):]
            middle = breathed(rooms, standing, first)
            self.assertEqual(breathed(rooms, middle, [(breath, 1) for breath in rest]), breathed(rooms, standing, word))

    def test_great_runs(self):
        rooms = (99, 1, 50, 2, 7, 99, 98, 1, 1, 30, 64, 99)
        word = [("L+", GREAT), ("R-", 100), ("L-", 50), ("R+", GREAT), ("L-", GREAT), ("R-", GREAT), ("R+", 100)] * 5
        slots = sum(rooms)
        self.assertEqual(breathed(rooms, bare(rooms), word), (0,) * 10 + (1, 99))
        first = (GREAT - 150, GREAT, GREAT - slots, GREAT - slots)
        later = (GREAT - 150, GREAT, GREAT - slots + 100, GREAT - slots)
        due = tuple(one + 4 * other for one, other in zip(first, later))
        self.assertEqual(kinds(heard(rooms, bare(rooms), word)), kinds(due))

    def test_forty_runs_in_rows_of_twelve(self):
        chance = random.Random(14)
        for _ in range(20):
            rooms = some_rooms(chance, 12, 99)
            standing = some_standing(chance, rooms)
            word = some_word(chance, 40, GREAT)
            # No more of one run than the room for slips, and one, can matter to where they lie.
            short = [(breath, min(many, sum(rooms) + 1)) for breath, many in word]
            self.assertEqual(breathed(rooms, standing, word), slow.behind(rooms, standing, short))
            more = [0, 0, 0, 0]
            for (breath, many), (_, few) in zip(word, short):
                more[("R+", "R-", "L+", "L-").index(breath)] += many - few
            due = tuple(one + other for one, other in zip(slow.heard(rooms, standing, short), more))
            self.assertEqual(heard(rooms, standing, word), due)

    def test_turned_about(self):
        chance = random.Random(15)
        for _ in range(200):
            rooms = some_rooms(chance, chance.randint(1, 12), 99)
            standing = some_standing(chance, rooms)
            word = some_word(chance, 8, 400)
            told = breathed(rooms[::-1], standing[::-1], turned(word))
            self.assertEqual(told[::-1], breathed(rooms, standing, word))
            slips_left, gasps_left, slips_right, gasps_right = heard(rooms, standing, word)
            self.assertEqual(heard(rooms[::-1], standing[::-1], turned(word)),
                             (slips_right, gasps_right, slips_left, gasps_left))

    def test_counterparts(self):
        chance = random.Random(16)
        for _ in range(200):
            rooms = some_rooms(chance, chance.randint(1, 12), 99)
            standing = some_standing(chance, rooms)
            word = some_word(chance, 8, 400)
            told = breathed(rooms, lacking(rooms, standing), contrary(word))
            self.assertEqual(told, lacking(rooms, breathed(rooms, standing, word)))
            slips_left, gasps_left, slips_right, gasps_right = heard(rooms, standing, word)
            self.assertEqual(heard(rooms, lacking(rooms, standing), contrary(word)),
                             (gasps_left, slips_left, gasps_right, slips_right))

    def test_told_is_handed_in_again(self):
        rooms = ROOMS
        standing = bare(rooms)
        word = [("L+", GREAT)]
        for _ in range(30):
            standing = breathed(rooms, standing, word)
            word = plain(word + word)
        self.assertEqual(standing, full(rooms))
        self.assertEqual(heard(rooms, standing, word), (0, 0, GREAT * 2 ** 30, 0))


if __name__ == "__main__":
    unittest.main()
