import random
import unittest

import slow
from breathrows.breaths import breathed
from breathrows.errors import TooMany
from breathrows.far import far
from breathrows.gaps import aheads, winds
from breathrows.limits import MOST
from breathrows.rows import bare, full, how_many, lacking
from breathrows.still import greatest_still, least_still, made_one, stands, stays, stills, wind_of
from breathrows.words import contrary, turned
from handed import Calls, kinds
from slow import BREATHS, all_standings, some_rooms, some_standing, some_word

GREAT = 10 ** 9
ROOMS = (2, 1, 3)
SMALL = [(1,), (3,), (1, 1), (2, 3), (3, 1), (2, 1, 2), (1, 3, 1), (1, 1, 1, 2)]
# From (0, 2) over (1, 1) to (2, 0), where one wind blows to the right.
BLOW = [("L+", 1), ("R-", 1)]


def words_of(chance):
    told = [[]] + [[(breath, many)] for breath in BREATHS for many in (1, 3)] + [BLOW, turned(BLOW), contrary(BLOW)]
    return told + [some_word(chance, runs, 4) for runs in (2, 3, 4, 7) for _ in range(4)]


class Interface(Calls, unittest.TestCase):
    CALLS = [
        (stands, {"rooms": (2, 2), "standing": (0, 2), "word": BLOW}, (2, (2, 0))),
        (stands, {"rooms": (2, 2), "standing": (2, 0), "word": BLOW}, (0, (2, 0))),
        (stays, {"rooms": (2, 2), "standing": (2, 0), "word": BLOW}, True),
        (stays, {"rooms": (2, 2), "standing": (0, 2), "word": BLOW}, False),
        (least_still, {"rooms": (2, 2), "word": BLOW}, (0, 0)),
        (greatest_still, {"rooms": (2, 2), "word": BLOW}, (2, 1)),
        (stills, {"rooms": (2, 2), "word": BLOW}, [(0, 0), (1, 0), (2, 0), (2, 1)]),
        (made_one, {"rooms": (2, 2), "word": BLOW}, None),
        (made_one, {"rooms": (2, 2), "word": [("R+", 4), ("L-", 3)]}, (0, 1)),
        (wind_of, {"rooms": (2, 2), "standing": (2, 0), "word": BLOW}, 1),
        (wind_of, {"rooms": (2, 2), "standing": (2, 0), "word": []}, 0),
    ]


class Stands(unittest.TestCase):
    def check(self, rooms, standing, word):
        many, told = stands(rooms, standing, word)
        lying = standing
        for _ in range(many):
            after = slow.behind(rooms, lying, word)
            self.assertNotEqual(after, lying, (rooms, standing, word))
            lying = after
        self.assertEqual(kinds(told), kinds(lying), (rooms, standing, word))
        self.assertEqual(slow.behind(rooms, lying, word), lying, (rooms, standing, word))
        self.assertLessEqual(many, sum(rooms))

    def test_from_all_standings_of_small_rows(self):
        chance = random.Random(51)
        for rooms in SMALL:
            for word in words_of(chance):
                for standing in all_standings(rooms):
                    self.check(rooms, standing, word)

    def test_at_once(self):
        self.assertEqual(stands(ROOMS, (1, 0, 2), []), (0, (1, 0, 2)))
        self.assertEqual(stands(ROOMS, (1, 0, 2), [("L+", 1), ("L-", 1)]), (0, (1, 0, 2)))
        self.assertEqual(stands(ROOMS, (2, 1, 3), [("R+", GREAT)]), (0, (2, 1, 3)))
        self.assertEqual(kinds(stands(ROOMS, [1, 0, 2], [])), kinds((0, (1, 0, 2))))

    def test_one_in_from_the_bare_row(self):
        for rooms in SMALL + [(99,) * 12, (1,) * 12, (99, 1, 50, 2, 7, 99, 98, 1, 1, 30, 64, 99), (64,), (63,)]:
            for breath in ("L+", "R+"):
                self.assertEqual(stands(rooms, bare(rooms), [(breath, 1)]), (sum(rooms), rooms))
            for breath in ("L-", "R-"):
                self.assertEqual(stands(rooms, full(rooms), [(breath, 1)]), (sum(rooms), bare(rooms)))

    def test_one_run(self):
        self.assertEqual(stands(ROOMS, (0, 0, 0), [("L+", 5)]), (2, (2, 1, 3)))
        self.assertEqual(stands(ROOMS, (0, 0, 0), [("L+", 6)]), (1, (2, 1, 3)))
        self.assertEqual(stands(ROOMS, (1, 1, 0), [("L+", 1)]), (4, (2, 1, 3)))
        self.assertEqual(stands(ROOMS, (1, 1, 0), [("L+", GREAT)]), (1, (2, 1, 3)))

    def test_great_rows(self):
        chance = random.Random(52)
        for most in (2, 5, 99, GREAT):
            for _ in range(4):
                rooms = some_rooms(chance, 12, 99)
                standing = some_standing(chance, rooms)
                word = some_word(chance, chance.choice([2, 5, 40]), most)
                many, told = stands(rooms, standing, word)
                lying = standing
                for _ in range(many):
                    after = breathed(rooms, lying, word)
                    self.assertNotEqual(after, lying)
                    lying = after
                self.assertEqual(told, lying)
                self.assertEqual(breathed(rooms, lying, word), lying)
                self.assertEqual(far(rooms, standing, word, 10 ** 12), told)

    def test_slowly_in_great_rooms(self):
        rooms = (99, 99)
        self.assertEqual(stands(rooms, (0, 99), BLOW), (99, (99, 0)))
        self.assertEqual(stands(rooms, (99, 0), turned(BLOW)), (99, (0, 99)))
        self.assertEqual(stands(rooms, (0, 0), [("L+", 2), ("R-", 1)]), (197, (99, 98)))

    def test_never_a_round(self):
        chance = random.Random(53)
        for _ in range(40):
            rooms = some_rooms(chance, chance.randint(1, 5), 6)
            word = some_word(chance, 6, 6)
            lying = some_standing(chance, rooms)
            seen = [lying]
            while slow.behind(rooms, lying, word) != lying:
                lying = slow.behind(rooms, lying, word)
                self.assertNotIn(lying, seen)
                seen.append(lying)
            self.assertEqual(stands(rooms, seen[0], word), (len(seen) - 1, lying))


class Stills(unittest.TestCase):
    def test_all_that_stay(self):
        chance = random.Random(54)
        for rooms in SMALL:
            for word in words_of(chance):
                due = [standing for standing in all_standings(rooms) if slow.behind(rooms, standing, word) == standing]
                self.assertEqual(kinds(stills(rooms, word)), kinds(due))
                self.assertEqual(due, sorted(set(due)))
                for standing in all_standings(rooms):
                    self.assertIs(stays(rooms, standing, word), standing in due)
                self.check_ends(rooms, word, due)

    def check_ends(self, rooms, word, due):
        numbers = [aheads(rooms, standing) for standing in due]
        least, greatest = least_still(rooms, word), greatest_still(rooms, word)
        self.assertIn(least, due)
        self.assertIn(greatest, due)
        self.assertEqual(aheads(rooms, least), [min(by_gap) for by_gap in zip(*numbers)])
        self.assertEqual(aheads(rooms, greatest), [max(by_gap) for by_gap in zip(*numbers)])
        self.assertEqual(stands(rooms, bare(rooms), word)[1], least)
        self.assertEqual(stands(rooms, full(rooms), word)[1], greatest)

    def test_no_word(self):
        self.assertEqual(stills((1, 2), []), all_standings((1, 2)))
        self.assertEqual(least_still(ROOMS, []), (0, 0, 0))
        self.assertEqual(greatest_still(ROOMS, []), ROOMS)

    def test_great_rows(self):
        rooms = (99,) * 12
        self.assertEqual(least_still(rooms, [("L+", 1)]), rooms)
        self.assertEqual(greatest_still(rooms, [("R-", 1)]), bare(rooms))
        self.assertEqual(least_still(rooms, BLOW), bare(rooms))
        self.assertEqual(greatest_still(rooms, BLOW), (99,) * 11 + (98,))
        self.assertEqual(greatest_still(rooms, [("R-", GREAT), ("L+", 1)]), (1,) + (0,) * 11)

    def test_the_least_and_the_greatest_of_counterparts(self):
        chance = random.Random(55)
        for _ in range(40):
            rooms = some_rooms(chance, chance.randint(1, 12), 30)
            word = some_word(chance, 6, 90)
            self.assertEqual(greatest_still(rooms, contrary(word)), lacking(rooms, least_still(rooms, word)))
            self.assertTrue(stays(rooms, least_still(rooms, word), word))

    def test_just_most(self):
        self.assertEqual(len(stills((1,) * 12, [])), MOST)
        self.assertEqual(stills((63, 63), [("L+", 1)]), [(63, 63)])
        self.assertEqual(stills((MOST - 1,), [("L-", 1)]), [(0,)])

    def test_too_many(self):
        for rooms, many in [((40, 99), 4100), ((MOST,), MOST + 1), ((1,) * 13, 8192), ((99,) * 12, 100 ** 12)]:
            self.assertEqual(how_many(rooms), many)
            for word in ([], [("L+", GREAT)]):
                for shape in (tuple, list):
                    with self.assertRaises(TooMany) as caught:
                        stills(shape(rooms), word)
                    self.assertEqual(kinds(caught.exception.many), kinds(many))
                    self.assertIsInstance(caught.exception, OverflowError)

    def test_others_are_never_too_many(self):
        rooms = (99,) * 12
        self.assertEqual(stands(rooms, rooms, BLOW), (1, (99,) * 11 + (98,)))
        self.assertIs(stays(rooms, rooms, BLOW), False)
        self.assertEqual(made_one(rooms, [("L+", GREAT)]), rooms)


class MadeOne(unittest.TestCase):
    def test_of_small_rows(self):
        chance = random.Random(56)
        ones = 0
        for rooms in SMALL:
            for word in words_of(chance) + [some_word(chance, 5, 9) for _ in range(5)]:
                led_to = set(slow.behind(rooms, standing, word) for standing in all_standings(rooms))
                due = min(led_to) if len(led_to) == 1 else None
                told = made_one(rooms, word)
                self.assertEqual(kinds(told), kinds(due))
                ones += told is not None
        self.assertGreater(ones, 20)

    def test_by_hand(self):
        self.assertEqual(made_one(ROOMS, [("L+", 6)]), ROOMS)
        self.assertIsNone(made_one(ROOMS, [("L+", 5)]))
        self.assertIsNone(made_one(ROOMS, []))
        self.assertEqual(made_one(ROOMS, [("L+", 6), ("R-", 2)]), (2, 1, 1))
        self.assertEqual(made_one(ROOMS, [("R-", GREAT), ("L+", 3)]), (2, 1, 0))
        # As many from everywhere, though they don't lie alike.
        self.assertIsNone(made_one((1, 1), [("L+", 1), ("L-", 1), ("L+", 1)]))


class Wind(unittest.TestCase):
    def test_at_every_gap(self):
        chance = random.Random(57)
        for rooms in SMALL:
            for word in words_of(chance):
                for standing in stills(rooms, word):
                    told = wind_of(rooms, standing, word)
                    self.assertEqual(kinds([told] * (len(rooms) + 1)), kinds(slow.winds(rooms, standing, word)))

    def test_by_hand(self):
        self.assertEqual(wind_of((2, 2), (0, 2), turned(BLOW)), -1)
        self.assertEqual(wind_of(ROOMS, ROOMS, [("L+", GREAT)]), GREAT)
        self.assertEqual(wind_of(ROOMS, ROOMS, [("R+", GREAT)]), -GREAT)
        self.assertEqual(wind_of(ROOMS, (0, 0, 0), [("L-", 3)]), -3)
        self.assertEqual(wind_of(ROOMS, (0, 0, 0), [("R-", 3)]), 3)

    def test_in_great_rows(self):
        chance = random.Random(58)
        for _ in range(20):
            rooms = some_rooms(chance, 12, 99)
            word = some_word(chance, 12, chance.choice([9, GREAT]))
            standing = stands(rooms, some_standing(chance, rooms), word)[1]
            told = wind_of(rooms, standing, word)
            self.assertEqual(winds(rooms, standing, word), [told] * 13)


if __name__ == "__main__":
    unittest.main()
