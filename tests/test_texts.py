import itertools
import random
import re
import unittest

from breathrows.errors import BadText
from breathrows.rows import is_rooms, is_standing
from breathrows.texts import row_in, row_text, word_in, word_text
from breathrows.words import is_word
from handed import Calls, kinds
from slow import BREATHS, all_standings, some_rooms, some_standing, some_word

GREATEST = 10 ** 10 - 1

# By hand: texts that are none of a word, and how many signs of them are right.
BAD_WORDS = [
    ("L+3 ", 4), ("L+0", 2), ("L+12345678901", 12), ("L", 1), ("R", 1), ("L+", 2), ("R-", 2), ("+", 0), ("3", 0),
    (" ", 0), (" L+3", 0), ("L+3  R-1", 4), ("L+3 R-1 ", 8), ("L+3 R", 5), ("L+3 R-", 6), ("L+3 R-0", 6),
    ("L+03", 2), ("L+3R-1", 3), ("L+3,R-1", 3), ("L+3\nR-1", 3), ("L+3\n", 3), ("\n", 0), ("l+3", 0), ("LL", 1),
    ("L*", 1), ("L +3", 1), ("L+ 3", 2), ("L++3", 2), ("L+-3", 2), ("L+3.", 3), ("L+3a", 3), ("L+1_0", 3), ("~", 0),
    ("L+3 L", 5), ("L+3 x", 4), ("L+3 3", 4), ("L+3\t", 3), ("L-1 L-1 L-", 10), ("L+9999999999 ", 13),
    ("L+99999999990", 12), ("L+9999999999x", 12), ("L+3 R+12345678901 L-1", 16), ("-", 0), ("done", 0), ("M+3", 0),
    ("RL+1", 1), ("L+\u0663", 2), ("L+1\u0663", 3), ("L+\u00b2", 2), ("\u00e9", 0)]
BAD_ROWS = [
    ("", 0), ("2/1", 3), (" ", 0), ("2", 1), ("2/", 2), ("/", 0), ("/3", 0), ("2/0", 2), ("0/0", 2), ("2/3 ", 4),
    ("2/3  0/1", 4), ("2/3 0", 5), ("2/3 0/", 6), ("2/3 0/0", 6), ("2/3 5/4", 7), ("2/3 5/4 1/1", 7), ("5/4 1/1", 3),
    ("02/3", 1), ("2/03", 2), ("00/1", 1), ("2 /3", 1), ("2/ 3", 2), ("2//3", 2), ("2/3/", 3), ("2/3,", 3),
    ("2/3\n", 3), ("2/3\n0/1", 3), ("a", 0), ("-1/2", 0), ("2/-1", 2), ("+1/2", 0), ("12345678901/1", 10),
    ("1/12345678901", 12), ("1/1234567890 ", 13), ("1234567890/1", 12), ("1234567890/0", 11), ("1234567890/11", 12),
    ("1234567890/12", 13), ("1234567890/1234567889", 19), ("1234567890/1233", 14), ("1234567890/12345678900", 21),
    ("9999999999/1", 11), ("9999999999/9", 12), ("9999999999/998", 13), ("9999999999/9999999998", 20),
    ("9999999999/99", 13), ("5000000000/4999999999", 11), ("5000000000/5", 12), ("999999999/1", 11),
    ("999999999/99999999", 18), ("2/1x", 3), ("2/1 ", 3), ("20/19", 5), ("20/1", 4), ("2/3 2/1", 7), ("(2/3)", 0),
    ("2/3)", 3), ("[2/3]", 0), ("2/\u0663", 2), ("\u0663/3", 0), ("2/3\u0663", 3), ("2/3 0/1 ", 8)]

RUN = "[LR][+-][1-9][0-9]{0,9}"
BELLOWS = "(0|[1-9][0-9]{0,9})/[1-9][0-9]{0,9}"


def is_word_text(text):
    return re.fullmatch(f"|{RUN}( {RUN})*", text) is not None


def is_row_text(text):
    if re.fullmatch(f"{BELLOWS}( {BELLOWS})*", text) is None:
        return False
    pairs = [part.split("/") for part in text.split(" ")]
    return all(int(many) <= int(room) for many, room in pairs)


class Interface(Calls, unittest.TestCase):
    CALLS = [
        (word_text, {"word": [("L+", 3), ("R-", 1)]}, "L+3 R-1"),
        (word_text, {"word": []}, ""),
        (word_in, {"text": "L+3 R-1"}, [("L+", 3), ("R-", 1)]),
        (word_in, {"text": ""}, []),
        (row_text, {"rooms": (3, 1), "standing": (2, 0)}, "2/3 0/1"),
        (row_in, {"text": "2/3 0/1"}, ((3, 1), (2, 0))),
    ]


class BadTexts(unittest.TestCase):
    def assert_bad(self, ask, text, at):
        with self.assertRaises(BadText, msg=repr(text)) as caught:
            ask(text)
        self.assertIs(type(caught.exception), BadText)
        self.assertEqual(kinds(caught.exception.at), kinds(at), text)

    def test_words_by_hand(self):
        for text, at in BAD_WORDS:
            self.assert_bad(word_in, text, at)

    def test_rows_by_hand(self):
        for text, at in BAD_ROWS:
            self.assert_bad(row_in, text, at)

    def check_all(self, ask, is_right, signs, longest, ends):
        """All texts of these signs. Whatever can go on at all is right behind one of the ends."""
        right = 0
        for size in range(longest + 1):
            for text in map("".join, itertools.product(signs, repeat=size)):
                if is_right(text):
                    ask(text)
                    right += 1
                    continue
                due = max(at for at in range(size + 1) if any(is_right(text[:at] + end) for end in ends))
                self.assert_bad(ask, text, due)
        self.assertGreater(right, 10)

    def test_all_short_texts_of_words(self):
        self.check_all(word_in, is_word_text, "LR- 01", 6, ["", "1", "+1", "L+1"])

    def test_all_short_texts_of_rows(self):
        ends = ["", "/9999999999", "0/9"] + ["9" * many for many in range(1, 11)]
        self.check_all(row_in, is_row_text, "012/ ", 6, ends)

    def test_each_beginning_of_a_right_text(self):
        chance = random.Random(111)
        for _ in range(40):
            text = word_text(some_word(chance, 5, chance.choice([9, 400, GREATEST])))
            for size in range(len(text) + 1):
                if not is_word_text(text[:size]):
                    self.assert_bad(word_in, text[:size], size)
                for sign in "x%\n":
                    self.assert_bad(word_in, text[:size] + sign + text[size:], size)
            rooms = some_rooms(chance, 5, chance.choice([9, 400, GREATEST]))
            text = row_text(rooms, some_standing(chance, rooms))
            for size in range(len(text) + 1):
                if not is_row_text(text[:size]):
                    self.assert_bad(row_in, text[:size], size)
                for sign in "x%\n":
                    self.assert_bad(row_in, text[:size] + sign + text[size:], size)


class WayBack(unittest.TestCase):
    def test_words(self):
        chance = random.Random(112)
        words = [[]] + [[(breath, many)] for breath in BREATHS for many in (1, 9, 10, 99, 100, 10 ** 9, GREATEST)]
        words += [some_word(chance, runs, most) for runs in (2, 5, 40, 60) for most in (1, 9, 10 ** 9, GREATEST)]
        words += [[("L+", 1), ("L+", 1)], [("L+", 1)] * 40]
        for word in words:
            text = word_text(word)
            self.assertEqual(kinds(word_in(text)), kinds(word))
            self.assertIs(is_word(word_in(text)), True)
            self.assertEqual(word_text(word_in(text)), text)
            self.assertEqual(text, " ".join(breath + str(many) for breath, many in word))

    def test_rows(self):
        chance = random.Random(113)
        pairs = [((1,), (0,)), ((1,), (1,)), ((GREATEST,), (0,)), ((GREATEST,), (GREATEST,)), ((10,), (2,)), ((100,), (99,))]
        pairs += [((2, 1, 2), standing) for standing in all_standings((2, 1, 2))]
        for size in (1, 2, 12, 30):
            for most in (1, 99, GREATEST):
                rooms = some_rooms(chance, size, most)
                pairs.append((rooms, some_standing(chance, rooms)))
        for rooms, standing in pairs:
            text = row_text(rooms, standing)
            self.assertEqual(kinds(row_in(text)), kinds((rooms, standing)))
            self.assertTrue(is_rooms(row_in(text)[0]) and is_standing(*row_in(text)))
            self.assertEqual(text, " ".join(str(many) + "/" + str(room) for room, many in zip(rooms, standing)))

    def test_lists_for_tuples(self):
        self.assertEqual(word_text((["L+", 3], ["R-", 1])), "L+3 R-1")
        self.assertEqual(row_text([3, 1], [2, 0]), "2/3 0/1")

    def test_told_is_the_askers_own(self):
        told = word_in("L+3 R-1")
        told.append(("L+", 1))
        self.assertEqual(word_in("L+3 R-1"), [("L+", 3), ("R-", 1)])

    def test_ten_figures(self):
        self.assertEqual(word_in("L+1234567890"), [("L+", 1234567890)])
        self.assertEqual(row_in("1234567890/1234567890"), ((1234567890,), (1234567890,)))
        self.assertEqual(row_in("2/10"), ((10,), (2,)))
        self.assertEqual(row_in("0/1"), ((1,), (0,)))


if __name__ == "__main__":
    unittest.main()
