import random
import unittest

from breathrows.breaths import breathed, heard
from breathrows.mates import left_lying, mates, shows_mates
from breathrows.rows import bare
from breathrows.slips import Row
from breathrows.words import turned
from handed import Calls, as_lists, as_tuples, exchanged, kinds
from slips_by_rule import SlowRow
from slow import breaths_of, some_rooms, some_word
from things import NEITHER, nested

ROOMS = (2, 1)
# 0, 1 into the first bellows, 2 into the other one; 3 takes 1, 4 takes 2; 5 lands to the left of 0, 6 in the
# other one; 7, 8 are heard; 9 to 11 take 6, 0, 5 from the right; 12 gasps.
WORD = [("L+", 3), ("L-", 1), ("R-", 1), ("L+", 4), ("R-", 4)]
TOLD = [(0, 0, 10), (1, 0, 3), (2, 1, 4), (5, 0, 11), (6, 1, 9), (7, None, None), (8, None, None)]


def by_rule(rooms, word):
    """What mates and left_lying tell, by the slow row."""
    row = SlowRow(rooms)
    told = {}
    for number, breath in enumerate(breaths_of(word)):
        got = row.breathe(breath, number)
        if breath[1] == "+":
            told[number] = [number, got, None]
        elif got is not None:
            told[got][2] = number
    return [tuple(told[number]) for number in sorted(told)], row.slips


class Interface(Calls, unittest.TestCase):
    CALLS = [
        (mates, {"rooms": ROOMS, "word": WORD}, TOLD),
        (mates, {"rooms": ROOMS, "word": []}, []),
        (mates, {"rooms": ROOMS, "word": [("L-", 3), ("R-", 2)]}, []),
        (left_lying, {"rooms": ROOMS, "word": WORD[:4]}, [[5, 0], [6]]),
        (left_lying, {"rooms": ROOMS, "word": WORD}, [[], []]),
        (left_lying, {"rooms": ROOMS, "word": []}, [[], []]),
    ]

    def test_shows_mates_by_places_and_by_names(self):
        told = mates(ROOMS, WORD)
        self.assertIs(shows_mates(ROOMS, WORD, told), True)
        self.assertIs(shows_mates(rooms=ROOMS, word=WORD, thing=told), True)
        self.assertIs(shows_mates(thing=told, word=as_tuples(WORD), rooms=list(ROOMS)), True)
        self.assertIs(shows_mates(as_lists(ROOMS), as_lists(WORD), told), True)
        self.assertEqual(kinds(told), kinds(TOLD))

    def test_no_two_told_lists_are_one(self):
        told = left_lying((2, 1, 3), []) + left_lying((2, 1, 3), [])
        self.assertEqual(len({id(slips) for slips in told}), 6)


class Mates(unittest.TestCase):
    def test_by_hand(self):
        self.assertEqual(mates((3,), [("L+", 2), ("R-", 1)]), [(0, 0, 2), (1, 0, None)])
        self.assertEqual(mates((3,), [("L+", 2), ("L-", 1)]), [(0, 0, None), (1, 0, 2)])
        self.assertEqual(mates((1,), [("L+", 2), ("L-", 2)]), [(0, 0, 2), (1, None, None)])
        self.assertEqual(mates((1,), [("L-", 1), ("L+", 1)]), [(1, 0, None)])
        self.assertEqual(mates((1, 1), [("R+", 1), ("L+", 1), ("R-", 2)]), [(0, 1, 2), (1, 0, 3)])
        self.assertEqual(left_lying((3,), [("L+", 1), ("R+", 1), ("L+", 1)]), [[2, 0, 1]])
        self.assertEqual(left_lying((1, 2), [("L+", 4), ("L-", 2)]), [[], [1]])

    def test_beside_a_row_that_does_the_same(self):
        chance = random.Random(101)
        for _ in range(120):
            rooms = some_rooms(chance, chance.randint(1, 12), chance.choice([1, 3, 20]))
            word = some_word(chance, chance.randint(0, 40), 10)
            told, lying = by_rule(rooms, word)
            self.assertEqual(kinds(mates(rooms, word)), kinds(told))
            self.assertEqual(kinds(left_lying(rooms, word)), kinds(lying))
            self.assertIs(shows_mates(rooms, word, told), True)
            row = Row(rooms)
            brought = {}
            for number, breath in enumerate(breaths_of(word)):
                got = row.breathe(breath, number)
                if breath[1] == "-" and got is not None:
                    brought[got] = number
            self.assertEqual({into: out for into, _, out in told if out is not None}, brought)
            self.assertEqual(left_lying(rooms, word), row.lies())

    def test_heard_ones_and_those_that_none_takes(self):
        chance = random.Random(102)
        for _ in range(60):
            rooms = some_rooms(chance, chance.randint(1, 6), 4)
            word = some_word(chance, 12, 9)
            told, lying = mates(rooms, word), left_lying(rooms, word)
            slips_left, _, slips_right, _ = heard(rooms, bare(rooms), word)
            self.assertEqual(sum(at is None for _, at, _ in told), slips_left + slips_right)
            self.assertTrue(all(out is None for _, at, out in told if at is None))
            still = {into: at for into, at, out in told if at is not None and out is None}
            self.assertEqual({into: at for at, slips in enumerate(lying) for into in slips}, still)
            self.assertEqual(tuple(len(slips) for slips in lying), breathed(rooms, bare(rooms), word))
            self.assertEqual([into for into, _, _ in told], sorted(into for into, _, _ in told))
            self.assertTrue(all(out is None or out > into for into, _, out in told))

    def test_turned_about(self):
        chance = random.Random(103)
        for _ in range(40):
            rooms = some_rooms(chance, chance.randint(1, 6), 4)
            word = some_word(chance, 12, 9)
            told = mates(rooms[::-1], turned(word))
            due = [(into, None if at is None else len(rooms) - 1 - at, out) for into, at, out in mates(rooms, word)]
            self.assertEqual(told, due)
            self.assertEqual(left_lying(rooms[::-1], turned(word)), [slips[::-1] for slips in left_lying(rooms, word)][::-1])

    def test_four_hundred_breaths(self):
        rooms = (99,) * 12
        told = mates(rooms, [("L+", 200), ("L-", 200)])
        self.assertEqual(told, [(into, into // 99, self.taker(into)) for into in range(200)])
        self.assertEqual(left_lying(rooms, [("R+", 400)])[7:], [list(range(396, 400))] + [
            list(range(99 * at, 99 * at + 99)) for at in range(3, -1, -1)])

    def taker(self, into):
        """Each bellows gives back its last slip first, the first bellows ahead of the others."""
        at = into // 99
        last = min(99 * at + 98, 199)
        return 200 + 99 * at + last - into


class ShowsMates(unittest.TestCase):
    def test_with_one_thing_otherwise(self):
        chance = random.Random(104)
        for _ in range(30):
            rooms = some_rooms(chance, chance.randint(1, 4), 3)
            word = [("L+", 2)] + some_word(chance, 6, 4)
            told = mates(rooms, word)
            self.assertIs(shows_mates(rooms, word, told), True)
            for at, triple in enumerate(told):
                for place in range(3):
                    for worth in (None, True, False, -1, 0, 1, 2, 99, "0", str(triple[place]), [triple[place]], (), []):
                        wrong = triple[:place] + (worth,) + triple[place + 1:]
                        thing = told[:at] + [wrong] + told[at + 1:]
                        self.assertIs(shows_mates(rooms, word, thing), kinds(wrong) == kinds(triple), thing)
                for wrong in (triple[:2], triple + (None,), (), None, list(triple), [triple], (triple,), triple[::-1]):
                    if kinds(wrong) != kinds(triple):
                        self.assertIs(shows_mates(rooms, word, told[:at] + [wrong] + told[at + 1:]), False)
                self.assertIs(shows_mates(rooms, word, told[:at] + told[at + 1:]), False)
                self.assertIs(shows_mates(rooms, word, told[:at] + [triple] + told[at:]), False)

    def test_lists_for_tuples_and_tuples_for_lists(self):
        for shape in (as_lists, as_tuples, exchanged):
            self.assertIs(shows_mates(ROOMS, WORD, shape(TOLD)), False)
        self.assertIs(shows_mates(ROOMS, WORD, TOLD), True)
        self.assertIs(shows_mates(ROOMS, WORD, TOLD[::-1]), False)

    def test_true_for_one(self):
        word = [("L+", 1), ("L-", 1)]
        self.assertIs(shows_mates((1, 1), word, [(0, 0, 1)]), True)
        self.assertIs(shows_mates((1, 1), word, [(0, 0, True)]), False)
        self.assertIs(shows_mates((1, 1), word, [(False, 0, 1)]), False)
        self.assertIs(shows_mates((1, 1), word, [(0, False, 1)]), False)
        self.assertIs(shows_mates((1, 1), [("L-", 1), ("L+", 2)], [(1, 0, None), (2, 1, None)]), True)
        self.assertIs(shows_mates((1, 1), [("L-", 1), ("L+", 2)], [(True, 0, None), (2, 1, None)]), False)
        self.assertIs(shows_mates((1, 1), [("L-", 1), ("L+", 2)], [(1, 0, None), (2, True, None)]), False)

    def test_none(self):
        for word in ([], [("R-", 5)]):
            self.assertIs(shows_mates(ROOMS, word, []), True)
            for thing in ((), None, False, 0, "", [[]], [()], ([],)):
                self.assertIs(shows_mates(ROOMS, word, thing), False, thing)

    def test_things_of_every_kind(self):
        deep = [nested(TOLD, kind, depth) for kind in (list, tuple) for depth in range(1, 6)]
        for thing in NEITHER + deep + [str(TOLD), (0, 0, 10), [0, 0, 10], [(0, 0, 10)]]:
            self.assertIs(shows_mates(ROOMS, WORD, thing), False, thing)


if __name__ == "__main__":
    unittest.main()
