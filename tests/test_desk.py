import inspect
import random
import unittest

from breathrows.desk import answers
from breathrows.errors import BadRow
from breathrows.far import far
from breathrows.fewest import fewest
from breathrows.names import name_of
from breathrows.rows import is_standing
from breathrows.shop import Shop
from breathrows.still import stands
from breathrows.texts import word_in, word_text
from handed import kinds
from shop_by_rule import told_or_refused
from slow import some_word

# Each with what is told of it, done one behind the other at one desk.
BY_HAND = [
    ("build a 2 1 3", "done"),
    ("lies a", "(0/2 0/1 0/3)"),
    ("name a", "-"),
    ("breathe a L+4", "-"),
    ("lies a", "(2/2 1/1 1/3)"),
    ("name a", "4"),
    ("breathe a R-2 L-3 L+1", "3 2 1 0 ~"),
    ("lies a", "(1/2 0/1 0/3)"),
    ("undo", "done"),
    ("lies a", "(2/2 1/1 1/3)"),
    ("breathe a L-4", "1 0 2 3"),
    ("undo", "done"),
    ("breathe a L-1 L-1", "1 0"),
    ("name a", "4 2"),
    ("still a L+1", "4 2 1 3"),
    ("still a L+1 L-1", "0 0 1 1"),
    ("still a L+1 R-1", "2 2 0 0"),
    ("far a 0 L+1", "0 1 1"),
    ("far a 3 L+1", "2 1 2"),
    ("far a 9999999999 L+1 R-1", "2 0 0"),
    ("road a 0 1 1", "-"),
    ("road a 2 1 0", "L+2 R-1"),
    ("road a 0 1 3", "R+2"),
    ("road a 0 1", "refused BadRooms"),
    ("road a 0 1 1 0", "refused BadRooms"),
    ("road a 0 1 4", "refused BadRooms"),
    ("road a 9999999999 1 1", "refused BadRooms"),
    ("build a 1", "refused Known"),
    ("build b 2 1 3", "done"),
    ("seal a 1", "done"),
    ("seal a 1", "refused Sealed"),
    ("scrape a 0", "refused Open"),
    ("seal a 3", "refused NoBellows"),
    ("scrape a 3", "refused NoBellows"),
    ("scrape a 9999999999", "refused NoBellows"),
    ("lies a", "(0/2 [1/1] 1/3)"),
    # Of the open bellows alone, (0, 1) of (2, 3).
    ("name a", "3 2"),
    ("still a L+1", "4 2 3"),
    ("far a 1 L+2 R-1", "2 0"),
    ("road a 2 0", "L+2 R-1"),
    ("road a 2 1 0", "refused BadRooms"),
    ("road a 2 1", "L+2"),
    ("breathe a R-2", "3 ~"),
    ("saw a b 1", "done"),
    ("lies a", "(0/2 0/1 0/3)"),
    ("lies b", "(0/2 [1/1] 0/3)"),
    ("saw a b 3", "done"),
    ("saw a b 4", "refused NoGap"),
    ("saw a a 1", "refused Unlike"),
    ("saw a a 9", "refused Unlike"),
    ("build c 1 1 1 1 1 1 1 1 1 1", "done"),
    ("saw a c 1", "refused Unlike"),
    ("saw a c 99", "refused Unlike"),
    ("lengthen a c", "refused TooLong"),
    ("lengthen c c", "refused Unlike"),
    ("lengthen b a", "done"),
    ("lies b", "(0/2 [1/1] 0/3 0/2 0/1 0/3)"),
    ("lies a", "refused NoRow"),
    ("raze a", "refused NoRow"),
    ("raze c", "done"),
    ("raze c", "refused NoRow"),
    ("breathe c L+1", "refused NoRow"),
    ("seal c 0", "refused NoRow"),
    ("scrape c 0", "refused NoRow"),
    ("saw b c 0", "refused NoRow"),
    ("saw c b 0", "refused NoRow"),
    ("lengthen b c", "refused NoRow"),
    ("lengthen c c", "refused NoRow"),
    ("still c L+1", "refused NoRow"),
    ("far c 1 L+1", "refused NoRow"),
    ("name c", "refused NoRow"),
    ("road c 1", "refused NoRow"),
    ("build d 1", "done"),
    ("breathe d L+2", "-"),
    ("seal d 0", "done"),
    ("lies d", "([1/1])"),
    ("still d L+1", "refused BadRooms"),
    ("far d 0 L+1", "refused BadRooms"),
    ("name d", "refused BadRooms"),
    ("road d 1", "refused BadRooms"),
    ("breathe d L-1 L+1 R-1", "~ ~"),
    ("scrape d 0", "done"),
    ("name d", "1"),
    ("breathe d R-1", "0"),
    ("undo", "done"),
]

# Each alone is a row that isn't so written.
BAD = [
    "", " ", "  ", "undo ", " undo", "undo undo", "undo 1", "undo a", "Undo", "UNDO", "do", "done", "nothing", "names",
    "build", "build ", "build a", "build a ", "build  a 1", "build a  1", "build a 1 ", "build a 1  2", "build a 0",
    "build a 1 0", "build a -1", "build a +1", "build a 01", "build a 1 00", "build a x", "build a 1,2", "build a 1/2",
    "build a 12345678901", "build 1 1", "build A 1", "build aB 1", "build a1 1", "build a_ 1", "build abcdefg 1",
    "build a b", "build a b 1", "build a 1.0", "build a L+1", "build\ta 1", "Build a 1", "build a 1\r", "build a (1)",
    "raze", "raze ", "raze a b", "raze a ", "raze 1", "raze abcdefg", "raze A", "raze a 1",
    "breathe", "breathe a", "breathe a ", "breathe a L", "breathe a L+", "breathe a L+0", "breathe a L+01",
    "breathe a L+1 ", "breathe a  L+1", "breathe a L+1  R-1", "breathe a L+1 R", "breathe a l+1", "breathe a L+1,R-1",
    "breathe a 1", "breathe a L+12345678901", "breathe L+1", "breathe abcdefg L+1", "breathe a b L+1", "breathe a L +1",
    "breathe a L+1 x", "breathe a X+1", "breathe a L*1", "breathe a L+-1",
    "seal", "seal a", "seal a ", "seal a 1 2", "seal a -1", "seal a 01", "seal a b", "seal 1 a", "seal a 12345678901",
    "seal a 1 ", "seal a  1", "seal a 00", "seal a L+1", "scrape", "scrape a", "scrape a b", "scrape a 1 1",
    "scrape a 12345678901", "scrape a -0", "scrape abcdefg 1",
    "saw", "saw a", "saw a b", "saw a 1", "saw a 1 b", "saw a b 1 1", "saw a b c", "saw a b -1", "saw a b 01", "saw a b ",
    "saw a abcdefg 1", "saw a b 12345678901", "saw a  b 1", "saw 1 a b",
    "lengthen", "lengthen a", "lengthen a ", "lengthen a b c", "lengthen a b 1", "lengthen a 1", "lengthen a B",
    "lengthen a b ", "lengthen abcdefg a", "lies", "lies ", "lies a b", "lies a ", "lies A", "lies 1", "lies abcdefg",
    "still", "still a", "still a ", "still a 1", "still a 1 L+1", "still a L+0", "still a L+1 ", "still a L+1 2",
    "still L+1", "still a L+12345678901", "far", "far a", "far a 1", "far a 1 ", "far a L+1", "far a 1 1 L+1",
    "far a L+1 1", "far a 01 L+1", "far a -1 L+1", "far a 12345678901 L+1", "far a 1 L+0", "far a 1 L+1 ", "far 1 L+1",
    "far abcdefg 1 L+1", "name", "name ", "name a b", "name a 1", "name A", "name a ", "name abcdefg",
    "road", "road a", "road a ", "road a -1", "road a 01", "road a 1 ", "road a 1  2", "road a x", "road a 12345678901",
    "road 1", "road a L+1", "road a 1/2", "road abcdefg 1", "road a 1 00", "rooms a", "standing a", "row_of a", "ins a",
    "deeds", "marks", "twin", "#", "# build a 1", "build a \u0661", "build \u00e9 1", "breathe a L+\u0661", "seal a \u00b2",
]
GOOD = [
    "build a 1", "build abcdef 9999999999 1", "raze a", "breathe a L+1", "breathe undo R-9 L-1 R+1", "seal a 0",
    "scrape a 9999999999", "saw a b 0", "lengthen a a", "undo", "lies a", "still a L+9999999999", "far a 0 L+1",
    "far a 9999999999 R-9999999999", "name a", "name name", "road a 0", "road a 9999999999 0 1", "raze z",
    "build build 1", "lies lies", "lengthen zzzzzz aaaaaa"]


class Interface(unittest.TestCase):
    def test_arguments(self):
        self.assertEqual(list(inspect.signature(answers).parameters), ["text"])
        self.assertEqual(answers(text="undo"), ["nothing"])
        self.assertEqual(answers("undo"), ["nothing"])

    def test_kinds_of_what_is_told(self):
        told = answers("\n".join(row for row, _ in BY_HAND))
        self.assertIs(type(told), list)
        self.assertEqual({type(text) for text in told}, {str})

    def test_each_desk_is_its_own(self):
        self.assertEqual(answers("build a 1"), ["done"])
        self.assertEqual(answers("build a 1\nlies a"), ["done", "(0/1)"])
        told = answers("build a 1")
        told.append("x")
        self.assertEqual(answers("build a 1"), ["done"])


class ByHand(unittest.TestCase):
    def test_each_row(self):
        told = answers("\n".join(row for row, _ in BY_HAND))
        self.assertEqual([(row, text) for (row, _), text in zip(BY_HAND, told)], BY_HAND)
        self.assertEqual(len(told), len(BY_HAND))

    def test_each_beginning(self):
        for many in range(1, len(BY_HAND)):
            rows = BY_HAND[:many]
            self.assertEqual(answers("\n".join(row for row, _ in rows)), [text for _, text in rows])

    def test_undo_of_none_and_of_all(self):
        rows = ["undo", "build a 1", "breathe a L+1", "undo", "undo", "undo", "lies a"]
        self.assertEqual(answers("\n".join(rows)), ["nothing", "done", "-", "done", "done", "nothing", "refused NoRow"])

    def test_asks_and_refused_deeds_are_not_undone(self):
        rows = ["build a 2", "breathe a L+2", "lies a", "name a", "still a L+1", "far a 1 L+1", "road a 0", "seal a 5",
                "build a 3", "undo", "lies a"]
        self.assertEqual(answers("\n".join(rows))[-2:], ["done", "(0/2)"])

    def test_slips_keep_their_numbers(self):
        rows = ["build a 2 2", "build b 2 2", "breathe a L+5", "breathe b R+3 L-1", "saw a b 1", "breathe a R-4",
                "breathe b R-4", "breathe a R+1", "breathe a L-1"]
        self.assertEqual(answers("\n".join(rows)), [
            "done", "done", "-", "2", "done", "1 0 0 1", "2 3 ~ ~", "-", "5"])

    def test_words_done_often_at_once(self):
        rows = ["build a " + " ".join(["99"] * 12), "still a L+1", "far a 9999999999 L+1", "far a 1000 L+1",
                "still a L+9999999999 R-1", "road a " + " ".join(["99", "0"] * 6)]
        told = answers("\n".join(rows))
        full = " ".join(["99"] * 12)
        self.assertEqual(told[1:5], ["1188 " + full, full, " ".join(["99"] * 10 + ["10", "0"]),
                                     "1 " + " ".join(["99"] * 11 + ["98"])])
        rooms = (99,) * 12
        self.assertEqual(told[5], word_text(fewest(rooms, (0,) * 12, (99, 0) * 6)[1]))


class BadRows(unittest.TestCase):
    def assert_bad(self, text, row):
        with self.assertRaises(BadRow, msg=repr(text)) as caught:
            answers(text)
        self.assertIs(type(caught.exception), BadRow)
        self.assertEqual(kinds(caught.exception.row), kinds(row), text)

    def test_each_alone(self):
        for row in BAD:
            self.assert_bad(row, 0)

    def test_the_first_one_ahead_of_all(self):
        good = "build a 1\nbuild a 1\nraze x"
        for row in BAD:
            self.assert_bad(good + "\n" + row, 3)
            self.assert_bad("undo\n" + row + "\n" + good + "\n" + row, 1)
            self.assert_bad(row + "\n" + good, 0)

    def test_the_empty_text_and_empty_rows(self):
        self.assert_bad("", 0)
        self.assert_bad("\n", 0)
        self.assert_bad("undo\n", 1)
        self.assert_bad("\nundo", 0)
        self.assert_bad("undo\n\nundo", 1)
        self.assert_bad("undo\nundo\n\n", 2)
        self.assert_bad("undo\r\nundo", 0)

    def test_each_that_is_so_written(self):
        for row in GOOD:
            self.assertEqual(len(answers(row)), 1, row)
        self.assertEqual(len(answers("\n".join(GOOD))), len(GOOD))

    def test_names_and_numbers_at_the_edge(self):
        self.assertEqual(answers("build abcdef 1\nlies abcdef"), ["done", "(0/1)"])
        self.assertEqual(answers("build a 1234567890\nlies a"), ["done", "(0/1234567890)"])
        self.assert_bad("build abcdefg 1", 0)
        self.assert_bad("build a 12345678901", 0)

    def test_sixty_rows(self):
        rows = ["undo"] * 59
        self.assertEqual(answers("\n".join(rows + ["undo"])), ["nothing"] * 60)
        self.assert_bad("\n".join(rows + ["undone"]), 59)


class Told(unittest.TestCase):
    """As told by a Shop and by the functions."""

    def listed(self, things):
        return " ".join("~" if thing is None else str(thing) for thing in things) or "-"

    def open_part(self, shop, name):
        row = shop.row_of(name)
        kept = [at for at in range(len(row.rooms())) if at not in row.sealed()]
        return tuple(row.rooms()[at] for at in kept), tuple(row.standing()[at] for at in kept)

    def ask(self, shop, word, name, things):
        if word == "lies":
            return str(shop.row_of(name))
        rooms, standing = self.open_part(shop, name)
        if not rooms:
            return "refused BadRooms"
        if word == "name":
            return self.listed(name_of(rooms, standing))
        if word == "still":
            many, told = stands(rooms, standing, word_in(" ".join(things)))
            return self.listed((many,) + told)
        if word == "far":
            return self.listed(far(rooms, standing, word_in(" ".join(things[1:])), int(things[0])))
        goal = tuple(int(thing) for thing in things)
        if not is_standing(rooms, goal):
            return "refused BadRooms"
        return word_text(fewest(rooms, standing, goal)[1]) or "-"

    def deed(self, shop, word, things):
        if word == "undo":
            return "done" if shop.undo() else "nothing"
        if word == "build":
            shop.build(things[0], [int(thing) for thing in things[1:]])
        elif word == "breathe":
            return self.listed(shop.breathe(things[0], word_in(" ".join(things[1:]))))
        else:
            getattr(shop, word)(*[int(thing) if thing.isdigit() else thing for thing in things])
        return "done"

    def told(self, shop, row):
        word, *things = row.split(" ")
        if word in ("lies", "name", "still", "far", "road"):
            kind, told = told_or_refused(self.ask, shop, word, things[0], things[1:])
        else:
            kind, told = told_or_refused(self.deed, shop, word, things)
        return told if kind == "told" else "refused " + kind

    def some_row(self, chance, names):
        word = chance.choice(["build"] * 3 + ["breathe"] * 5 + ["seal"] * 3 + [
            "scrape", "saw", "saw", "lengthen", "raze", "undo", "lies", "name", "still", "far", "road", "road"])
        name, other = [chance.choice(names * 3 + ["a", "b", "c", "zzzzzz"]) for _ in range(2)]
        runs = word_text(some_word(chance, chance.randint(1, 4), 4))
        if word == "undo":
            return word
        if word == "build":
            rooms = chance.choice(["2 1 3", "2 1 3", " ".join(str(chance.randint(1, 4)) for _ in range(chance.randint(1, 8)))])
            return f"build {chance.choice('abc')} {rooms}"
        if word in ("breathe", "still"):
            return f"{word} {name} {runs}"
        if word == "far":
            return f"far {name} {chance.choice([0, 1, 2, 5, 9999999999])} {runs}"
        if word == "road":
            return f"road {name} " + " ".join(str(chance.randint(0, 2)) for _ in range(chance.choice([1, 2, 3, 3])))
        if word == "saw":
            return f"saw {name} {other} {chance.randint(0, 4)}"
        if word == "lengthen":
            return f"lengthen {name} {other}"
        if word in ("seal", "scrape"):
            return f"{word} {name} {chance.randint(0, 3)}"
        return f"{word} {name}"

    def test_many_rows(self):
        words = set()
        for seed in range(60):
            chance = random.Random(seed)
            shop, rows, due = Shop(), [], []
            for _ in range(60):
                rows.append(self.some_row(chance, shop.names()))
                due.append(self.told(shop, rows[-1]))
            self.assertEqual(answers("\n".join(rows)), due)
            words.update((row.split(" ")[0], text.startswith("refused")) for row, text in zip(rows, due))
        self.assertEqual(len(words), 25)


if __name__ == "__main__":
    unittest.main()
