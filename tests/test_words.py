import random
import unittest

from breathrows.words import begun, contrary, is_word, nets, plain, size_of, turned
from handed import Calls, as_lists, as_tuples, exchanged, kinds
from slow import BREATHS, breaths_of, some_word
from things import NEITHER, nested

GREAT = 10 ** 9
WORD = [("L+", 3), ("L+", 2), ("R-", 1), ("L-", 4), ("R+", GREAT), ("R+", GREAT)]
NOT_BREATHS = [
    "l+", "L", "L+ ", " L+", "", "+", "+L", "L++", "L+L+", "LL", "L*", "r-", "R", "R -", "M+", "L+\n", "L+3",
    None, True, False, 0, 1, ("L+",), ["L+"], ("L", "+"), ["L", "+"], (), []]
NOT_MANY = [0, -1, -GREAT, True, False, None, "1", "", "3", (1,), [1], (), []]


def small_words():
    chance = random.Random(5)
    return [[]] + [[(breath, many)] for breath in BREATHS for many in (1, 2)] + [
        some_word(chance, runs, 4) for runs in (2, 3, 4, 6, 9) for _ in range(40)]


class Interface(Calls, unittest.TestCase):
    CALLS = [
        (plain, {"word": WORD}, [("L+", 5), ("R-", 1), ("L-", 4), ("R+", 2 * GREAT)]),
        (plain, {"word": []}, []),
        (size_of, {"word": WORD}, 10 + 2 * GREAT),
        (size_of, {"word": []}, 0),
        (nets, {"word": WORD}, (1, 2 * GREAT - 1)),
        (nets, {"word": []}, (0, 0)),
        (turned, {"word": WORD}, [("R+", 3), ("R+", 2), ("L-", 1), ("R-", 4), ("L+", GREAT), ("L+", GREAT)]),
        (turned, {"word": []}, []),
        (contrary, {"word": WORD}, [("L-", 3), ("L-", 2), ("R+", 1), ("L+", 4), ("R-", GREAT), ("R-", GREAT)]),
        (contrary, {"word": []}, []),
        (begun, {"word": WORD, "many": 0}, []),
        (begun, {"word": WORD, "many": 4}, [("L+", 4)]),
        (begun, {"word": WORD, "many": GREAT + 11}, [("L+", 5), ("R-", 1), ("L-", 4), ("R+", GREAT + 1)]),
        (begun, {"word": [], "many": 7}, []),
    ]

    def test_is_word_by_name(self):
        self.assertIs(is_word(thing=[("L+", 1)]), True)
        self.assertIs(is_word(thing=(("L+", 1),)), False)


class IsWord(unittest.TestCase):
    def test_words(self):
        for thing in small_words() + [WORD, [("L+", 10 ** 30)], [("R-", 1)] * 40, [("R-", 1)] * 50]:
            with self.subTest(thing=thing):
                self.assertIs(is_word(thing), True)

    def test_none(self):
        self.assertIs(is_word([]), True)
        self.assertIs(is_word(()), False)

    def test_a_tuple_for_the_list(self):
        for word in small_words():
            self.assertIs(is_word(tuple(word)), False)

    def test_a_list_for_a_pair(self):
        for word in small_words()[1:]:
            for at in range(len(word)):
                thing = word[:at] + [list(word[at])] + word[at + 1:]
                self.assertIs(is_word(thing), False, thing)

    def test_exchanged(self):
        for word in small_words()[1:]:
            for shape in (as_lists, as_tuples, exchanged):
                self.assertIs(is_word(shape(word)), False)

    def test_one_run_that_is_none(self):
        wrong = [(breath, 2) for breath in NOT_BREATHS] + [("L+", many) for many in NOT_MANY]
        wrong += [(), ("L+",), ("L+", 1, 1), ("L+", 1, None), (1, "L+"), "L+", "L+1", 1, None, True, (("L+", 1),)]
        for word in [[], [("L+", 1)], [("R-", 2), ("L+", 1), ("R+", GREAT)]]:
            for at in range(len(word) + 1):
                for run in wrong:
                    thing = word[:at] + [run] + word[at:]
                    self.assertIs(is_word(thing), False, thing)

    def test_every_breath_with_every_many(self):
        for breath in BREATHS:
            for many in NOT_MANY:
                self.assertIs(is_word([(breath, many)]), False, (breath, many))

    def test_within_another_one(self):
        for depth in range(1, 6):
            for kind in (list, tuple):
                self.assertIs(is_word(nested([("L+", 1)], kind, depth)), False)
                self.assertIs(is_word(nested([], kind, depth)), False)

    def test_a_run_alone(self):
        self.assertIs(is_word(("L+", 1)), False)
        self.assertIs(is_word(["L+", 1]), False)

    def test_other_things(self):
        for thing in NEITHER + BREATHS_AND_TEXTS:
            if kinds(thing) != kinds([]):
                self.assertIs(is_word(thing), False, thing)


BREATHS_AND_TEXTS = list(BREATHS) + ["L+3 R-1", "[]", "[('L+', 1)]"]


class Plain(unittest.TestCase):
    def test_is_the_same_word(self):
        for word in small_words():
            told = plain(word)
            self.assertEqual(breaths_of(told), breaths_of(word))
            self.assertIs(is_word(told), True)

    def test_no_neighbours_of_one_breath(self):
        for word in small_words():
            told = plain(word)
            self.assertTrue(all(one[0] != other[0] for one, other in zip(told, told[1:])), told)

    def test_what_is_plain_already(self):
        word = [("L+", 1), ("L-", 1), ("L+", 1), ("R+", 2), ("L+", 5)]
        self.assertEqual(plain(word), word)
        self.assertIsNot(plain(word), word)

    def test_three_neighbours(self):
        self.assertEqual(plain([("L+", 1), ("L+", 2), ("L+", 3)]), [("L+", 6)])

    def test_told_is_handed_in_again(self):
        word = [("L+", GREAT)] * 40
        for _ in range(20):
            word = plain(word + word)
        self.assertEqual(word, [("L+", 40 * GREAT * 2 ** 20)])
        self.assertEqual(size_of(word), 40 * GREAT * 2 ** 20)


class Counts(unittest.TestCase):
    def test_size_of(self):
        for word in small_words():
            self.assertEqual(size_of(word), len(breaths_of(word)))
        self.assertEqual(size_of([("L+", GREAT), ("R-", GREAT)] * 20), 40 * GREAT)

    def test_nets(self):
        for word in small_words():
            many = [breaths_of(word).count(breath) for breath in BREATHS]
            self.assertEqual(nets(word), (many[0] - many[1], many[2] - many[3]))
        self.assertEqual(nets([("L-", GREAT), ("R+", GREAT)] * 20), (-20 * GREAT, 20 * GREAT))

    def test_nets_of_one_breath(self):
        self.assertEqual([nets([(breath, 3)]) for breath in BREATHS], [(3, 0), (-3, 0), (0, 3), (0, -3)])


class Exchanged(unittest.TestCase):
    def test_each_breath(self):
        self.assertEqual([turned([(breath, 2)]) for breath in BREATHS],
                         [[("R+", 2)], [("R-", 2)], [("L+", 2)], [("L-", 2)]])
        self.assertEqual([contrary([(breath, 2)]) for breath in BREATHS],
                         [[("L-", 2)], [("L+", 2)], [("R-", 2)], [("R+", 2)]])

    def test_runs_stay_as_they_stand(self):
        self.assertEqual(turned([("L+", 1), ("L+", 1)]), [("R+", 1), ("R+", 1)])
        self.assertEqual(contrary([("L+", 1), ("L+", 1)]), [("L-", 1), ("L-", 1)])

    def test_twice_is_the_word(self):
        for word in small_words():
            self.assertEqual(turned(turned(word)), word)
            self.assertEqual(contrary(contrary(word)), word)
            self.assertEqual(nets(turned(word)), nets(word)[::-1])
            self.assertEqual(nets(contrary(word)), (-nets(word)[0], -nets(word)[1]))


class Begun(unittest.TestCase):
    def test_every_beginning(self):
        for word in small_words():
            breaths = breaths_of(word)
            for many in range(len(breaths) + 3):
                told = begun(word, many)
                self.assertEqual(breaths_of(told), breaths[:many])
                self.assertEqual(told, plain(told))
                self.assertIs(is_word(told), True)

    def test_great_runs(self):
        word = [("L+", GREAT), ("L+", GREAT), ("R-", GREAT)]
        self.assertEqual(begun(word, 1), [("L+", 1)])
        self.assertEqual(begun(word, GREAT), [("L+", GREAT)])
        self.assertEqual(begun(word, GREAT + 1), [("L+", GREAT + 1)])
        self.assertEqual(begun(word, 2 * GREAT), [("L+", 2 * GREAT)])
        self.assertEqual(begun(word, 3 * GREAT - 1), [("L+", 2 * GREAT), ("R-", GREAT - 1)])
        for more in (0, 1, GREAT, 10 ** 12):
            self.assertEqual(begun(word, 3 * GREAT + more), [("L+", 2 * GREAT), ("R-", GREAT)])


if __name__ == "__main__":
    unittest.main()
