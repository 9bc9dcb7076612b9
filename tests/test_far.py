import random
import unittest

import slow
from breathrows.breaths import breathed
from breathrows.errors import TooMany
from breathrows.far import far, parted, winds_far
from breathrows.gaps import winds
from breathrows.limits import MOST
from breathrows.rows import bare, full, how_many
from breathrows.words import contrary, turned
from handed import Calls, kinds
from slow import all_standings, some_rooms, some_standing, some_word

GREAT = 10 ** 9
OFTEN = 10 ** 12
ROOMS = (2, 1, 3)
SMALL = [(1,), (3,), (1, 1), (2, 3), (3, 1), (2, 1, 2), (1, 3, 1), (1, 1, 1, 2)]
# From (0, 2) over (1, 1) to (2, 0), where one wind blows to the right.
BLOW = [("L+", 1), ("R-", 1)]


class Interface(Calls, unittest.TestCase):
    CALLS = [
        (far, {"rooms": (2, 2), "standing": (0, 2), "word": BLOW, "many": 0}, (0, 2)),
        (far, {"rooms": (2, 2), "standing": (0, 2), "word": BLOW, "many": 1}, (1, 1)),
        (far, {"rooms": (2, 2), "standing": (0, 2), "word": BLOW, "many": OFTEN}, (2, 0)),
        (winds_far, {"rooms": (2, 2), "standing": (0, 2), "word": BLOW, "many": 0}, [0, 0, 0]),
        (winds_far, {"rooms": (2, 2), "standing": (0, 2), "word": BLOW, "many": 2}, [2, 0, 2]),
        (winds_far, {"rooms": (2, 2), "standing": (0, 2), "word": BLOW, "many": OFTEN}, [OFTEN, OFTEN - 2, OFTEN]),
        (parted, {"rooms": (2, 2), "one": BLOW, "other": []}, (0, 1)),
        (parted, {"rooms": (2, 2), "one": [("L+", 1), ("L+", 1)], "other": [("L+", 2)]}, None),
    ]


class Far(unittest.TestCase):
    def check(self, rooms, standing, word, most):
        """By breaths gone one by one, up to so many words."""
        lying = standing
        blown = [0] * (len(rooms) + 1)
        for many in range(most + 1):
            self.assertEqual(far(rooms, standing, word, many), lying, (rooms, standing, word, many))
            self.assertEqual(winds_far(rooms, standing, word, many), blown, (rooms, standing, word, many))
            blown = [one + other for one, other in zip(blown, slow.winds(rooms, lying, word))]
            lying = slow.behind(rooms, lying, word)

    def test_small_many(self):
        chance = random.Random(41)
        for rooms in SMALL:
            for _ in range(12):
                word = some_word(chance, chance.randint(0, 6), 4)
                self.check(rooms, some_standing(chance, rooms), word, sum(rooms) + 3)

    def test_words_that_move_slowly(self):
        chance = random.Random(42)
        slowly = [
            [("L+", 1)], [("R+", 1)], [("L-", 1)], [("R-", 1)], BLOW, [("R+", 1), ("L-", 1)],
            [("L+", 2), ("R-", 1)], [("L-", 2), ("R+", 1)], [("L+", 3), ("R+", 2), ("L-", 4)], [("R-", 3), ("L+", 4)],
            [("L-", 1), ("R+", 1), ("R-", 2), ("L+", 1)], [("L+", 2), ("L-", 1), ("R-", 2), ("R+", 2)]]
        for word in slowly:
            for rooms in [(5, 4, 6), (9, 1, 3, 2), (7, 8)]:
                for standing in (bare(rooms), full(rooms), some_standing(chance, rooms)):
                    self.check(rooms, standing, word, sum(rooms) + 2)

    def test_from_all_standings(self):
        chance = random.Random(43)
        rooms = (2, 1, 2)
        for word in [BLOW, turned(BLOW), contrary(BLOW)] + [some_word(chance, 4, 3) for _ in range(5)]:
            for standing in all_standings(rooms):
                self.check(rooms, standing, word, 7)

    def test_often_in_great_rows(self):
        chance = random.Random(44)
        for most in (3, 99, GREAT):
            for _ in range(3):
                rooms = some_rooms(chance, 12, 99)
                standing = some_standing(chance, rooms)
                word = some_word(chance, 40, most)
                told = far(rooms, standing, word, OFTEN)
                lying = standing
                for _ in range(sum(rooms)):
                    lying = breathed(rooms, lying, word)
                self.assertEqual(kinds(told), kinds(lying))
                self.assertEqual(far(rooms, standing, word, OFTEN - 1), lying)

    def test_winds_often_in_great_rows(self):
        chance = random.Random(45)
        for most in (3, GREAT):
            rooms = some_rooms(chance, 12, 99)
            standing = some_standing(chance, rooms)
            word = some_word(chance, 12, most)
            lying = standing
            blown = [0] * 13
            for _ in range(sum(rooms)):
                blown = [one + other for one, other in zip(blown, winds(rooms, lying, word))]
                lying = breathed(rooms, lying, word)
            self.assertEqual(winds_far(rooms, standing, word, sum(rooms)), blown)
            each = winds(rooms, lying, word)
            due = [one + (OFTEN - sum(rooms)) * other for one, other in zip(blown, each)]
            self.assertEqual(kinds(winds_far(rooms, standing, word, OFTEN)), kinds(due))

    def test_one_in_of_rooms_of_99(self):
        rooms = (99,) * 12
        self.assertEqual(far(rooms, bare(rooms), [("L+", 1)], 1187), (99,) * 11 + (98,))
        self.assertEqual(far(rooms, bare(rooms), [("L+", 1)], 1188), rooms)
        self.assertEqual(far(rooms, bare(rooms), [("L+", 1)], OFTEN), rooms)
        self.assertEqual(far(rooms, rooms, [("R-", 1)], 1187), (1,) + (0,) * 11)
        self.assertEqual(winds_far(rooms, bare(rooms), [("L+", 1)], OFTEN), [OFTEN - 99 * gap for gap in range(13)])
        self.assertEqual(winds_far(rooms, bare(rooms), [("R+", 1)], 5), [0] * 12 + [-5])

    def test_more_often_than_the_bounds(self):
        self.assertEqual(far((2, 2), (0, 2), BLOW, 10 ** 5000), (2, 0))
        self.assertTrue(winds_far((2, 2), (0, 2), BLOW, 10 ** 5000)[0] == 10 ** 5000)

    def test_put_together(self):
        chance = random.Random(46)
        for _ in range(60):
            rooms = some_rooms(chance, 5, 9)
            standing = some_standing(chance, rooms)
            word = some_word(chance, 5, 6)
            first, more = chance.randint(0, 60), chance.randint(0, 60)
            middle = far(rooms, standing, word, first)
            self.assertEqual(far(rooms, middle, word, more), far(rooms, standing, word, first + more))
            together = zip(winds_far(rooms, standing, word, first), winds_far(rooms, middle, word, more))
            self.assertEqual(winds_far(rooms, standing, word, first + more), [sum(pair) for pair in together])


class Parted(unittest.TestCase):
    def test_the_first_standing_rising(self):
        chance = random.Random(47)
        nones = 0
        for rooms in SMALL:
            words = [some_word(chance, runs, 4) for runs in (0, 1, 1, 2, 3, 5, 6)]
            for one in words:
                for other in words:
                    due = [standing for standing in all_standings(rooms)
                           if slow.behind(rooms, standing, one) != slow.behind(rooms, standing, other)]
                    told = parted(rooms, one, other)
                    self.assertEqual(kinds(told), kinds(due[0] if due else None))
                    nones += told is None
        self.assertGreater(nones, 0)

    def test_by_hand(self):
        self.assertEqual(parted(ROOMS, [("L+", 1)], [("R+", 1)]), (0, 0, 0))
        # What came into the second bellows doesn't come out of it.
        self.assertEqual(parted(ROOMS, [("L+", 1), ("L-", 1)], []), (2, 0, 0))
        # Of the full row alone one is left.
        self.assertEqual(parted(ROOMS, [("R-", 5)], [("R-", 6)]), (2, 1, 3))
        self.assertIsNone(parted(ROOMS, [("L+", 6)], [("R+", 6)]))
        self.assertIsNone(parted(ROOMS, [], []))

    def test_just_most(self):
        for rooms in [(1,) * 12, (63, 63), (7, 7, 7, 7), (MOST - 1,)]:
            self.assertEqual(how_many(rooms), MOST)
            self.assertEqual(parted(rooms, [("R-", sum(rooms) - 1)], [("R-", sum(rooms))]), rooms)
            self.assertIsNone(parted(rooms, [("R-", 2)], [("R-", 1), ("R-", 1)]))

    def test_above_most(self):
        for rooms, many in [((40, 99), 4100), ((MOST,), MOST + 1), ((1,) * 13, 8192), ((99,) * 12, 100 ** 12)]:
            for one, other in [([], []), ([("L+", 1)], [("R+", 1)]), ([("L+", 1)], [("L+", 1)])]:
                for shape in (tuple, list):
                    with self.assertRaises(TooMany) as caught:
                        parted(shape(rooms), one, other)
                    self.assertEqual(kinds(caught.exception.many), kinds(many))
                    self.assertIsInstance(caught.exception, OverflowError)


if __name__ == "__main__":
    unittest.main()
