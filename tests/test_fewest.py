import random
import unittest

import slow
from breathrows.breaths import breathed
from breathrows.fewest import fewest, fewest_left, fewest_right, how_few, nearer, shows_fewest
from breathrows.names import name_of
from breathrows.rows import bare, full, lacking
from breathrows.words import contrary, is_word, plain, size_of, turned
from handed import Calls, as_lists, as_tuples, exchanged, kinds
from slow import BREATHS, all_standings, breaths_of, some_rooms, some_standing
from things import NEITHER, nested

ROOMS = (2, 1, 3)
SMALL = [(1,), (3,), (1, 1), (2, 3), (3, 1), (2, 1, 2), (1, 3, 1), (1, 1, 1, 2), (1, 2, 1, 1)]
ONE, OTHER = (0, 1, 2), (2, 1, 1)


class Interface(Calls, unittest.TestCase):
    CALLS = [
        # L- takes the slip in the middle and one behind it, L+ brings three back.
        (fewest_left, {"rooms": ROOMS, "one": ONE, "other": OTHER}, [("L-", 2), ("L+", 3)]),
        (fewest_right, {"rooms": ROOMS, "one": ONE, "other": OTHER}, [("R+", 3), ("R-", 2)]),
        (how_few, {"rooms": ROOMS, "one": ONE, "other": OTHER}, 3),
        (fewest, {"rooms": ROOMS, "one": ONE, "other": OTHER}, (1, [("L+", 2), ("R-", 1)])),
        (nearer, {"rooms": ROOMS, "one": ONE, "other": OTHER}, ["L+", "R-"]),
        (fewest_left, {"rooms": ROOMS, "one": ONE, "other": ONE}, []),
        (fewest_right, {"rooms": ROOMS, "one": ONE, "other": ONE}, []),
        (how_few, {"rooms": ROOMS, "one": ONE, "other": ONE}, 0),
        (fewest, {"rooms": ROOMS, "one": ONE, "other": ONE}, (0, [])),
        (nearer, {"rooms": ROOMS, "one": ONE, "other": ONE}, []),
    ]

    def test_shows_fewest_by_places_and_by_names(self):
        word = [("R-", 1), ("L+", 2)]
        self.assertIs(shows_fewest(ROOMS, ONE, OTHER, word), True)
        self.assertIs(shows_fewest(rooms=ROOMS, one=ONE, other=OTHER, thing=word), True)
        self.assertIs(shows_fewest(thing=word, other=list(OTHER), one=list(ONE), rooms=list(ROOMS)), True)
        self.assertEqual(word, [("R-", 1), ("L+", 2)])


class OneHand(unittest.TestCase):
    def test_small_rows_by_layers(self):
        for ask, breaths in [(fewest_left, ("L+", "L-")), (fewest_right, ("R+", "R-"))]:
            for rooms in SMALL:
                for one in all_standings(rooms):
                    told = slow.layers(rooms, one, breaths)
                    self.assertEqual(sorted(told), all_standings(rooms))
                    for other, words in told.items():
                        self.assertEqual(len(words), 1, (rooms, one, other))
                        self.assertEqual(kinds(ask(rooms, one, other)), kinds(slow.runs_of(words[0])))

    def test_by_hand(self):
        self.assertEqual(fewest_left(ROOMS, (0, 0, 0), (0, 0, 1)), [("L+", 4), ("L-", 3)])
        self.assertEqual(fewest_right(ROOMS, (0, 0, 0), (0, 0, 1)), [("R+", 1)])
        self.assertEqual(fewest_left(ROOMS, (2, 1, 3), (0, 0, 0)), [("L-", 6)])
        self.assertEqual(fewest_left(ROOMS, (0, 1, 0), (2, 0, 0)), [("L-", 1), ("L+", 2)])
        self.assertEqual(fewest_right(ROOMS, (1, 0, 0), (0, 0, 0)), [("R-", 1)])
        self.assertEqual(fewest_right(ROOMS, (0, 0, 0), (1, 0, 0)), [("R+", 5), ("R-", 4)])

    def test_from_the_bare_row_it_is_the_name(self):
        for rooms in SMALL:
            for standing in all_standings(rooms):
                word = fewest_left(rooms, bare(rooms), standing)
                self.assertEqual([many for _, many in word], name_of(rooms, standing))
                self.assertEqual([breath for breath, _ in word], [("L+", "L-")[at % 2] for at in range(len(word))])

    def test_great_rows(self):
        chance = random.Random(81)
        for _ in range(200):
            rooms = some_rooms(chance, 12, 99)
            one, other = some_standing(chance, rooms), some_standing(chance, rooms)
            for ask, hand in [(fewest_left, "L"), (fewest_right, "R")]:
                word = ask(rooms, one, other)
                self.assertIs(is_word(word), True)
                self.assertEqual(plain(word), word)
                self.assertEqual({breath[0] for breath, _ in word}, {hand})
                self.assertEqual(breathed(rooms, one, word), other)
                # One breath less of any run leads elsewhere.
                for at, (breath, many) in enumerate(word):
                    less = word[:at] + ([(breath, many - 1)] if many > 1 else []) + word[at + 1:]
                    self.assertNotEqual(breathed(rooms, one, less), other)

    def test_turned_about_and_counterparts(self):
        chance = random.Random(82)
        for _ in range(100):
            rooms = some_rooms(chance, chance.randint(1, 12), 99)
            one, other = some_standing(chance, rooms), some_standing(chance, rooms)
            left, right = fewest_left(rooms, one, other), fewest_right(rooms, one, other)
            self.assertEqual(fewest_right(rooms[::-1], one[::-1], other[::-1]), turned(left))
            lacks = lacking(rooms, one), lacking(rooms, other)
            self.assertEqual(fewest_left(rooms, *lacks), contrary(left))
            self.assertEqual(fewest_right(rooms, *lacks), contrary(right))


class BothHands(unittest.TestCase):
    def sizes(self, rooms, one, other):
        """Gap by gap, how many breaths the one hand's fewest ahead of it, the other one's behind it are."""
        told = []
        for gap in range(len(rooms) + 1):
            left = fewest_left(rooms[:gap], one[:gap], other[:gap]) if gap else []
            right = fewest_right(rooms[gap:], one[gap:], other[gap:]) if gap < len(rooms) else []
            told.append((size_of(left) + size_of(right), left + right))
        return told

    def test_small_rows_by_layers(self):
        for rooms in SMALL:
            for one in all_standings(rooms):
                told = slow.layers(rooms, one, BREATHS)
                for other, words in told.items():
                    few = len(words[0])
                    self.assertEqual(kinds(how_few(rooms, one, other)), kinds(few), (rooms, one, other))
                    sizes = self.sizes(rooms, one, other)
                    gap = [size for size, _ in sizes].index(few)
                    self.assertEqual(kinds(fewest(rooms, one, other)), kinds((gap, sizes[gap][1])))
                    self.check_word(rooms, one, other, fewest(rooms, one, other)[1], few)

    def check_word(self, rooms, one, other, word, few):
        self.assertIs(is_word(word), True)
        self.assertEqual(plain(word), word)
        self.assertEqual(size_of(word), few)
        self.assertEqual(breathed(rooms, one, word), other)
        self.assertIs(shows_fewest(rooms, one, other, word), True)

    def test_the_first_gap_by_hand(self):
        self.assertEqual(fewest(ROOMS, (0, 0, 0), (0, 0, 3)), (0, [("R+", 3)]))
        self.assertEqual(fewest(ROOMS, (0, 0, 0), (2, 1, 0)), (2, [("L+", 3)]))
        self.assertEqual(fewest(ROOMS, (0, 0, 0), (2, 1, 3)), (0, [("R+", 6)]))
        self.assertEqual(fewest(ROOMS, (2, 1, 3), (1, 1, 2)), (1, [("L-", 1), ("R-", 1)]))
        self.assertEqual(fewest(ROOMS, (2, 1, 3), (1, 1, 3)), (1, [("L-", 1)]))
        self.assertEqual(fewest((3,), (1,), (3,)), (0, [("R+", 2)]))
        self.assertEqual(fewest((1, 1, 1), (1, 1, 0), (1, 1, 1)), (0, [("R+", 1)]))
        self.assertEqual(fewest((1, 3), (0, 2), (0, 1)), (0, [("R-", 1)]))
        self.assertEqual(fewest((3, 3), (3, 1), (3, 2)), (0, [("R+", 1)]))
        self.assertEqual(fewest((5, 1, 5), (5, 0, 0), (5, 1, 0)), (2, [("L+", 1)]))

    def test_the_last_gap_is_never_the_first_one(self):
        # The right hand puts the last bellows right with no more breaths than the left one.
        for rooms in SMALL:
            for one in all_standings(rooms):
                self.assertTrue(all(fewest(rooms, one, other)[0] < len(rooms) for other in all_standings(rooms)))
        self.assertEqual(fewest((9, 9, 9), (9, 9, 0), (9, 9, 9)), (0, [("R+", 9)]))
        self.assertEqual(fewest((9, 9), (8, 9), (0, 8)), (1, [("L-", 8), ("R-", 1)]))

    def test_great_rows(self):
        chance = random.Random(83)
        for _ in range(100):
            rooms = some_rooms(chance, 12, 99)
            one, other = some_standing(chance, rooms), some_standing(chance, rooms)
            sizes = self.sizes(rooms, one, other)
            few = min(size for size, _ in sizes)
            gap = [size for size, _ in sizes].index(few)
            self.assertEqual(how_few(rooms, one, other), few)
            self.assertEqual(fewest(rooms, one, other), (gap, sizes[gap][1]))
            self.check_word(rooms, one, other, sizes[gap][1], few)
            self.assertEqual(how_few(rooms, lacking(rooms, one), lacking(rooms, other)), few)
            self.assertEqual(how_few(rooms[::-1], one[::-1], other[::-1]), few)

    def test_to_itself(self):
        for rooms in SMALL + [(99,) * 12]:
            for standing in (bare(rooms), full(rooms), (1,) * len(rooms)):
                self.assertEqual(fewest(rooms, standing, standing), (0, []))
                self.assertEqual(how_few(rooms, standing, standing), 0)
                self.assertEqual(fewest_left(rooms, standing, standing), [])
                self.assertEqual(fewest_right(rooms, standing, standing), [])
                self.assertEqual(nearer(rooms, standing, standing), [])


class Nearer(unittest.TestCase):
    def test_small_rows_by_layers(self):
        for rooms in SMALL:
            few = {one: {other: len(words[0]) for other, words in slow.layers(rooms, one, BREATHS).items()}
                   for one in all_standings(rooms)}
            for one in few:
                behind = {breath: slow.behind(rooms, one, [(breath, 1)]) for breath in BREATHS}
                for other in few:
                    due = [breath for breath in BREATHS if few[behind[breath]][other] < few[one][other]]
                    self.assertEqual(kinds(nearer(rooms, one, other)), kinds(due), (rooms, one, other))
                    self.assertTrue(due or one == other)
                    for breath in due:
                        self.assertEqual(few[behind[breath]][other], few[one][other] - 1)

    def test_in_their_order(self):
        self.assertEqual(nearer((3, 3), (0, 0), (3, 3)), ["L+", "R+"])
        self.assertEqual(nearer((3, 3), (3, 3), (0, 0)), ["L-", "R-"])
        self.assertEqual(nearer((3,), (2,), (0,)), ["L-", "R-"])
        self.assertEqual(nearer((1, 1), (1, 0), (0, 1)), ["L+", "L-", "R+", "R-"])
        self.assertEqual(nearer((3, 3), (2, 0), (1, 1)), ["L-", "R+", "R-"])

    def test_great_rows_are_walked_to_the_end(self):
        chance = random.Random(84)
        rooms = some_rooms(chance, 12, 99)
        one, other = some_standing(chance, rooms), some_standing(chance, rooms)
        for _ in range(min(60, how_few(rooms, one, other))):
            few = how_few(rooms, one, other)
            told = nearer(rooms, one, other)
            self.assertTrue(told)
            one = breathed(rooms, one, [(chance.choice(told), 1)])
            self.assertEqual(how_few(rooms, one, other), few - 1)


class ShowsFewest(unittest.TestCase):
    def test_all_short_words_of_a_small_row(self):
        rooms = (1, 2)
        words = [[]]
        for word in words:
            if len(word) < 5:
                words += [word + [breath] for breath in BREATHS]
        for one in all_standings(rooms):
            few = {other: len(told[0]) for other, told in slow.layers(rooms, one, BREATHS).items()}
            for breaths in words:
                behind = slow.behind(rooms, one, [(breath, 1) for breath in breaths])
                for other in few:
                    due = behind == other and len(breaths) == few[other]
                    self.assertIs(shows_fewest(rooms, one, other, slow.runs_of(breaths)), due)

    def test_near_misses(self):
        chance = random.Random(85)
        for _ in range(60):
            rooms = some_rooms(chance, chance.randint(1, 6), 9)
            one, other = some_standing(chance, rooms), some_standing(chance, rooms)
            word = fewest(rooms, one, other)[1]
            self.assertIs(shows_fewest(rooms, one, other, word), True)
            for breath in BREATHS:
                self.assertIs(shows_fewest(rooms, one, other, word + [(breath, 1)]), False)
                self.assertIs(shows_fewest(rooms, one, other, [(breath, 1)] + word), False)
            for at, (breath, many) in enumerate(word):
                for worth in (many + 1, many - 1, True, None, str(many), 10 ** 30):
                    thing = word[:at] + [(breath, worth)] + word[at + 1:]
                    self.assertIs(shows_fewest(rooms, one, other, thing), False, (rooms, one, other, thing))
                self.assertIs(shows_fewest(rooms, one, other, word[:at] + word[at + 1:]), False)

    def test_runs_as_they_be(self):
        chance = random.Random(86)
        for _ in range(60):
            rooms = some_rooms(chance, chance.randint(1, 6), 9)
            one, other = some_standing(chance, rooms), some_standing(chance, rooms)
            word = fewest(rooms, one, other)[1]
            single = [(breath, 1) for breath in breaths_of(word)]
            self.assertIs(shows_fewest(rooms, one, other, single), True)
            for at, (breath, many) in enumerate(word):
                if many > 1:
                    cut = chance.randint(1, many - 1)
                    thing = word[:at] + [(breath, cut), (breath, many - cut)] + word[at + 1:]
                    self.assertIs(shows_fewest(rooms, one, other, thing), True)

    def test_others_of_the_fewest_breaths(self):
        self.assertIs(shows_fewest((3, 3), (0, 0), (3, 3), [("L+", 2), ("R+", 1), ("L+", 1), ("R+", 2)]), True)
        self.assertIs(shows_fewest((3, 3), (0, 0), (3, 3), [("L+", 6)]), True)
        self.assertIs(shows_fewest((3, 3), (0, 0), (3, 3), [("L+", 7)]), False)
        self.assertIs(shows_fewest((3, 3), (0, 0), (3, 3), [("L+", 5)]), False)
        # It leads elsewhere with as few.
        self.assertIs(shows_fewest((3, 3), (0, 0), (3, 0), [("R+", 3)]), False)

    def test_to_itself(self):
        self.assertIs(shows_fewest(ROOMS, ONE, ONE, []), True)
        self.assertIs(shows_fewest(ROOMS, ONE, ONE, [("L+", 1), ("L-", 1)]), False)
        self.assertIs(shows_fewest(ROOMS, ROOMS, ROOMS, [("L+", 1)]), False)
        self.assertIs(shows_fewest(ROOMS, ONE, ONE, ()), False)
        self.assertIs(shows_fewest(ROOMS, ONE, OTHER, []), False)

    def test_lists_for_tuples_are_no_word(self):
        word = fewest(ROOMS, ONE, OTHER)[1]
        for shape in (as_lists, as_tuples, exchanged):
            self.assertIs(shows_fewest(ROOMS, ONE, OTHER, shape(word)), False)
            self.assertIs(shows_fewest(shape(ROOMS), shape(ONE), shape(OTHER), word), True)

    def test_things_of_every_kind(self):
        word = fewest(ROOMS, ONE, OTHER)[1]
        deep = [nested(word, kind, depth) for kind in (list, tuple) for depth in range(1, 6)]
        for thing in NEITHER + deep + ["L+2 R-1", ("L+", 2), ["L+", 2], (1, word), [1, word], how_few(ROOMS, ONE, OTHER)]:
            self.assertIs(shows_fewest(ROOMS, ONE, OTHER, thing), False, thing)
            self.assertIs(shows_fewest(ROOMS, ONE, ONE, thing), kinds(thing) == kinds([]), thing)


if __name__ == "__main__":
    unittest.main()
