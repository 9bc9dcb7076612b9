import random
import unittest

import slow
from breathrows.breaths import breathed
from breathrows.gaps import aheads
from breathrows.rows import bare, full
from breathrows.widths import between, is_below, width, widest, widths
from handed import Calls, kinds
from slow import all_standings, some_rooms, some_standing, some_word

GREAT = 10 ** 9
ROOMS = (2, 1, 3)
SMALL = [(1,), (3,), (1, 1), (2, 3), (2, 1, 2), (1, 1, 1, 2)]
# Ahead of each gap lie 0, 1, 2, 2; 0, 2, 2, 5; 0, 2, 2, 2; 0, 0, 1, 4.
LOW, HIGH, LEFT, RIGHT = (1, 1, 0), (2, 0, 3), (2, 0, 0), (0, 1, 3)
WORDS = [[("R+", 1)], [], [("L-", 2), ("R+", 1)], [("L+", 9)]]


class Interface(Calls, unittest.TestCase):
    CALLS = [
        (width, {"rooms": ROOMS, "one": LOW, "other": HIGH}, 3),
        (width, {"rooms": ROOMS, "one": LEFT, "other": RIGHT}, 2),
        (width, {"rooms": ROOMS, "one": LOW, "other": LOW}, 0),
        (widest, {"rooms": ROOMS, "one": LOW, "other": HIGH}, 3),
        (widest, {"rooms": ROOMS, "one": LEFT, "other": RIGHT}, 1),
        (widest, {"rooms": ROOMS, "one": LOW, "other": LOW}, None),
        # (2, 0, 1), (1, 1, 3); the same; (0, 0, 2), (1, 0, 3); both full.
        (widths, {"rooms": ROOMS, "one": LEFT, "other": RIGHT, "words": WORDS}, [2, 2, 2, 2, 0]),
        (widths, {"rooms": ROOMS, "one": LEFT, "other": RIGHT, "words": []}, [2]),
        (is_below, {"rooms": ROOMS, "one": LOW, "other": HIGH}, True),
        (is_below, {"rooms": ROOMS, "one": HIGH, "other": LOW}, False),
        (is_below, {"rooms": ROOMS, "one": LEFT, "other": RIGHT}, False),
        (is_below, {"rooms": ROOMS, "one": RIGHT, "other": LEFT}, False),
        (between, {"rooms": ROOMS, "one": LEFT, "other": RIGHT}, ((0, 1, 1), (2, 0, 2))),
        (between, {"rooms": ROOMS, "one": RIGHT, "other": LEFT}, ((0, 1, 1), (2, 0, 2))),
        (between, {"rooms": ROOMS, "one": HIGH, "other": LOW}, (LOW, HIGH)),
    ]


def pairs_of(rooms):
    return [(one, other) for one in all_standings(rooms) for other in all_standings(rooms)]


class Widths(unittest.TestCase):
    def test_all_pairs_of_small_rows(self):
        for rooms in SMALL:
            for one, other in pairs_of(rooms):
                unlike = [abs(mine - its) for mine, its in zip(aheads(rooms, one), aheads(rooms, other))]
                self.assertEqual(width(rooms, one, other), max(unlike))
                due = None if one == other else unlike.index(max(unlike))
                self.assertEqual(kinds(widest(rooms, one, other)), kinds(due))

    def test_the_first_gap_of_several(self):
        self.assertEqual(widest((1, 1, 1), (1, 0, 0), (0, 0, 0)), 1)
        self.assertEqual(widest((1, 1, 1), (0, 1, 0), (0, 0, 1)), 2)
        self.assertEqual(widest((1, 1, 1), (0, 0, 1), (0, 0, 0)), 3)
        self.assertEqual(widest((2, 2, 2), (1, 1, 0), (0, 0, 2)), 2)

    def test_bare_and_full(self):
        rooms = (99,) * 12
        self.assertEqual(width(rooms, bare(rooms), full(rooms)), 1188)
        self.assertEqual(widest(rooms, full(rooms), bare(rooms)), 12)
        self.assertIsNone(widest(rooms, rooms, rooms))

    def test_behind_words_gone_one_by_one(self):
        chance = random.Random(61)
        for rooms in SMALL:
            for _ in range(15):
                one, other = some_standing(chance, rooms), some_standing(chance, rooms)
                words = [some_word(chance, chance.randint(0, 3), 3) for _ in range(chance.randint(0, 5))]
                due = [width(rooms, one, other)]
                mine, its = one, other
                for word in words:
                    mine, its = slow.behind(rooms, mine, word), slow.behind(rooms, its, word)
                    due.append(width(rooms, mine, its))
                self.assertEqual(kinds(widths(rooms, one, other, words)), kinds(due))

    def test_never_rise(self):
        chance = random.Random(62)
        for _ in range(100):
            rooms = some_rooms(chance, chance.randint(1, 12), 99)
            words = [some_word(chance, 3, chance.choice([3, 100, GREAT])) for _ in range(40)]
            told = widths(rooms, some_standing(chance, rooms), some_standing(chance, rooms), words)
            self.assertEqual(len(told), 41)
            self.assertEqual(told, sorted(told, reverse=True))


class Below(unittest.TestCase):
    def test_all_pairs_of_small_rows(self):
        for rooms in SMALL:
            for one, other in pairs_of(rooms):
                mine, its = aheads(rooms, one), aheads(rooms, other)
                due = not any(ahead > other_ahead for ahead, other_ahead in zip(mine, its))
                self.assertIs(is_below(rooms, one, other), due)
                fewer, more = between(rooms, one, other)
                self.assertEqual(aheads(rooms, fewer), [min(pair) for pair in zip(mine, its)])
                self.assertEqual(aheads(rooms, more), [max(pair) for pair in zip(mine, its)])

    def test_of_one_and_the_same(self):
        for standing in all_standings(ROOMS):
            self.assertIs(is_below(ROOMS, standing, standing), True)
            self.assertEqual(kinds(between(ROOMS, standing, list(standing))), kinds((standing, standing)))

    def test_bare_and_full(self):
        for rooms in SMALL + [(99,) * 12]:
            self.assertIs(is_below(rooms, bare(rooms), full(rooms)), True)
            self.assertIs(is_below(rooms, full(rooms), bare(rooms)), False)
            self.assertEqual(between(rooms, full(rooms), bare(rooms)), (bare(rooms), full(rooms)))

    def test_words_keep_below(self):
        chance = random.Random(63)
        for _ in range(200):
            rooms = some_rooms(chance, chance.randint(1, 12), 20)
            word = some_word(chance, 6, 60)
            low, high = between(rooms, some_standing(chance, rooms), some_standing(chance, rooms))
            self.assertIs(is_below(rooms, low, high), True)
            self.assertIs(is_below(rooms, breathed(rooms, low, word), breathed(rooms, high, word)), True)


if __name__ == "__main__":
    unittest.main()
