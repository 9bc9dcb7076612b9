import inspect
import random
import unittest

import slow
from breathrows.breaths import breathed, heard
from breathrows.errors import NoBellows, NoGap, Open, Sealed, Unlike
from breathrows.rows import bare, full, lacking
from breathrows.slips import Row
from breathrows.words import contrary
from handed import kinds, spoil
from slips_by_rule import SlowRow, everything
from slow import BREATHS, breaths_of, some_rooms, some_word

ROOMS = (2, 1, 3)


def row_with(rooms, breaths):
    """A Row of these breaths, ins with slips 0, 1, 2 and so on."""
    row = Row(rooms)
    for slip, breath in enumerate(breaths):
        row.breathe(breath, slip)
    return row


def filled(rooms, first=0):
    """A full Row, its slips numbered from the left, from first on."""
    row = Row(rooms)
    for at in range(len(rooms) - 1, -1, -1):
        for slip in range(rooms[at]):
            row.breathe("R+", first + sum(rooms[:at]) + slip)
    return row


class Interface(unittest.TestCase):
    def test_methods_and_their_arguments(self):
        due = {"breathe": ["breath", "slip"], "lies": [], "standing": [], "heard_at": ["side"], "rooms": [],
               "seal": ["bellows"], "scrape": ["bellows"], "sealed": [], "saw": ["other", "gap"], "twin": []}
        for name, arguments in due.items():
            self.assertIn(name, vars(Row))
            self.assertEqual(list(inspect.signature(getattr(Row, name)).parameters), ["self"] + arguments)
        for name in ("__len__", "__eq__", "__str__"):
            self.assertIn(name, vars(Row))
        self.assertEqual(list(inspect.signature(Row).parameters), ["rooms"])
        self.assertIsNone(inspect.signature(Row.breathe).parameters["slip"].default)

    def test_by_names(self):
        row, other = Row(rooms=ROOMS), Row(rooms=ROOMS)
        self.assertEqual(row.breathe(breath="L+", slip=5), 0)
        self.assertEqual(row.breathe(slip=6, breath="R+"), 2)
        self.assertEqual(row.heard_at(side="left"), [])
        row.seal(bellows=1)
        row.scrape(bellows=1)
        row.saw(other=other, gap=1)
        self.assertEqual((row.lies(), other.lies()), ([[5], [], []], [[], [], [6]]))
        self.assertEqual(row.breathe(breath="L-"), 5)

    def test_a_new_row(self):
        row = Row(ROOMS)
        due = [ROOMS, [[], [], []], (0, 0, 0), [], [], [], 0, "(0/2 0/1 0/3)"]
        self.assertEqual(kinds(everything(row)), kinds(due))

    def test_none_is_told_where_nothing_is_said(self):
        row = Row(ROOMS)
        self.assertIsNone(row.seal(0))
        self.assertIsNone(row.scrape(0))
        self.assertIsNone(row.saw(Row(ROOMS), 1))

    def test_a_list_for_rooms_is_not_kept(self):
        rooms = [2, 1, 3]
        row = Row(rooms)
        rooms[0] = 9
        rooms.append(4)
        self.assertEqual(kinds(row.rooms()), kinds(ROOMS))
        self.assertEqual(row.standing(), (0, 0, 0))
        self.assertEqual(kinds(Row([2, 1, 3]).rooms()), kinds(ROOMS))

    def test_told_lists_changed_and_told_again(self):
        row = row_with(ROOMS, ["L+", "R+", "R+", "R+", "R+", "R+", "L+", "L-", "R+", "R+", "L+"])
        for breath in ["R-"] * 7 + ["L-"] * 2:
            row.breathe(breath)
        row.breathe("L+", 50)
        row.breathe("R+", 51)
        row.seal(1)
        before = everything(row.twin())
        for told in (row.lies(), row.heard_at("left"), row.heard_at("right"), row.sealed(), everything(row)):
            self.assertTrue(told)
            spoil(told)
            self.assertEqual(kinds(everything(row)), kinds(before))
        lists = row.lies()
        self.assertEqual(len({id(told) for told in lists + [lists] + row.lies()}), 7)

    def test_asking_changes_nothing(self):
        row = row_with(ROOMS, ["L+", "R+", "L+", "R-", "R-", "R-", "R-", "L+"])
        row.seal(0)
        before = kinds(everything(row))
        for _ in range(3):
            row.twin()
            self.assertTrue(row == row.twin())
            self.assertEqual(kinds(everything(row)), before)


class Breathe(unittest.TestCase):
    def test_side_by_side(self):
        row = Row((4,))
        self.assertEqual(row.breathe("L+", 10), 0)
        self.assertEqual(row.breathe("L+", 11), 0)
        self.assertEqual(row.breathe("R+", 12), 0)
        self.assertEqual(row.lies(), [[11, 10, 12]])
        self.assertEqual(row.breathe("L+", 13), 0)
        self.assertEqual(row.lies(), [[13, 11, 10, 12]])
        self.assertEqual(row.breathe("R-"), 12)
        self.assertEqual(row.breathe("L-"), 13)
        self.assertEqual(row.breathe("R-"), 10)
        self.assertEqual(row.lies(), [[11]])
        self.assertEqual(row.breathe("L-"), 11)
        self.assertEqual(row.lies(), [[]])

    def test_into_the_first_that_is_not_full(self):
        row = Row(ROOMS)
        self.assertEqual([row.breathe("L+", slip) for slip in range(6)], [0, 0, 1, 2, 2, 2])
        self.assertEqual(row.lies(), [[1, 0], [2], [5, 4, 3]])
        row = Row(ROOMS)
        self.assertEqual([row.breathe("R+", slip) for slip in range(6)], [2, 2, 2, 1, 0, 0])
        self.assertEqual(row.lies(), [[4, 5], [3], [0, 1, 2]])

    def test_out_of_the_first_that_is_not_bare(self):
        row = filled(ROOMS)
        self.assertEqual(row.lies(), [[0, 1], [2], [3, 4, 5]])
        self.assertEqual([row.breathe("L-") for _ in range(4)], [0, 1, 2, 3])
        self.assertEqual(row.lies(), [[], [], [4, 5]])
        row = filled(ROOMS)
        self.assertEqual([row.breathe("R-") for _ in range(4)], [5, 4, 3, 2])
        self.assertEqual(row.lies(), [[0, 1], [], []])

    def test_slips_heard_and_gasps_at_both_sides_in_order(self):
        row = filled((1, 1))
        self.assertIsNone(row.breathe("L+", 20))
        self.assertIsNone(row.breathe("R+", 21))
        self.assertIsNone(row.breathe("L+", 22))
        self.assertIsNone(row.breathe("R+", 23))
        self.assertEqual((row.heard_at("left"), row.heard_at("right")), ([21, 23], [20, 22]))
        self.assertEqual([row.breathe("L-"), row.breathe("R-")], [0, 1])
        self.assertIsNone(row.breathe("L-"))
        self.assertIsNone(row.breathe("R-"))
        self.assertIsNone(row.breathe("R-"))
        self.assertEqual((row.heard_at("left"), row.heard_at("right")), ([21, 23, None, None], [20, 22, None]))
        for slip in range(30, 33):
            row.breathe("L+", slip)
        self.assertEqual((row.heard_at("left"), row.heard_at("right")), ([21, 23, None, None], [20, 22, None, 32]))
        self.assertEqual(row.lies(), [[30], [31]])

    def test_a_slip_with_an_out_is_left_aside(self):
        row = filled((1, 1))
        self.assertEqual(row.breathe("L-", 99), 0)
        self.assertEqual(row.breathe("R-", slip=99), 1)
        self.assertIsNone(row.breathe("R-", 99))
        self.assertIsNone(row.breathe("L-", 99))
        self.assertEqual(everything(row), [(1, 1), [[], []], (0, 0), [None], [None], [], 0, "(0/1 0/1)"])

    def test_any_numbers(self):
        row = Row((4,))
        for slip in (-5, 0, 10 ** 40, 7):
            row.breathe("R+", slip)
        row.breathe("L+", 7)
        self.assertEqual(row.lies(), [[-5, 0, 10 ** 40, 7]])
        self.assertEqual(row.heard_at("right"), [7])
        self.assertEqual([row.breathe("L-") for _ in range(3)], [-5, 0, 10 ** 40])

    def test_one_slip_twice(self):
        row = Row((3,))
        for _ in range(3):
            row.breathe("L+", 4)
        self.assertEqual(row.lies(), [[4, 4, 4]])

    def test_by_the_rule(self):
        chance = random.Random(91)
        for _ in range(60):
            rooms = some_rooms(chance, chance.randint(1, 12), chance.choice([1, 3, 99]))
            row, due = Row(rooms), SlowRow(rooms)
            for slip in range(150):
                breath = chance.choice(BREATHS + ("L+",) * chance.randint(0, 2))
                self.assertEqual(kinds(row.breathe(breath, slip)), kinds(due.breathe(breath, slip)))
                if slip % 10 == 0:
                    at = chance.randrange(len(rooms))
                    if at in due.sealed:
                        row.scrape(at)
                        due.sealed.discard(at)
                    else:
                        row.seal(at)
                        due.sealed.add(at)
                    self.assertEqual(kinds(everything(row)), kinds(due.everything()))

    def test_how_many_lie_where_hangs_on_no_slip(self):
        chance = random.Random(92)
        for _ in range(60):
            rooms = some_rooms(chance, chance.randint(1, 12), 9)
            word = some_word(chance, 12, 20)
            row, same = Row(rooms), Row(rooms)
            for slip, breath in enumerate(breaths_of(word)):
                row.breathe(breath, slip)
                same.breathe(breath, 7)
            self.assertEqual(kinds(row.standing()), kinds(breathed(rooms, bare(rooms), word)))
            self.assertEqual(same.standing(), row.standing())
            told = [row.heard_at("left"), row.heard_at("right")]
            due = heard(rooms, bare(rooms), word)
            counts = [(len(at) - at.count(None), at.count(None)) for at in told]
            self.assertEqual(counts[0] + counts[1], due)

    def test_a_slip_lies_still(self):
        chance = random.Random(93)
        for _ in range(20):
            rooms = some_rooms(chance, chance.randint(1, 6), 5)
            row = Row(rooms)
            lying = {}
            for slip, breath in enumerate(breaths_of(some_word(chance, 30, 6))):
                told = row.breathe(breath, slip)
                if breath[1] == "+" and told is not None:
                    lying[slip] = told
                if breath[1] == "-" and told is not None:
                    del lying[told]
                self.assertEqual({slip: at for at, slips in enumerate(row.lies()) for slip in slips}, lying)


class Seal(unittest.TestCase):
    def assert_refused(self, error, deed, bellows, row):
        before = kinds(everything(row))
        with self.assertRaises(error) as caught:
            deed(bellows)
        self.assertIs(type(caught.exception), error)
        self.assertEqual(kinds(caught.exception.bellows), kinds(bellows))
        self.assertEqual(kinds(everything(row)), before)

    def test_gone_past(self):
        row = Row(ROOMS)
        row.seal(0)
        self.assertEqual([row.breathe("L+", slip) for slip in range(5)], [1, 2, 2, 2, None])
        self.assertEqual(row.heard_at("right"), [4])
        self.assertEqual(row.standing(), (0, 1, 3))
        row.seal(2)
        self.assertEqual(row.breathe("R-"), 0)
        self.assertIsNone(row.breathe("R-"))
        self.assertEqual(row.heard_at("left"), [None])
        row.scrape(0)
        self.assertEqual([row.breathe("R+", slip) for slip in range(10, 14)], [1, 0, 0, None])
        self.assertEqual(row.lies(), [[11, 12], [10], [3, 2, 1]])

    def test_what_lies_in_it_stays(self):
        row = filled(ROOMS)
        row.seal(1)
        self.assertEqual([row.breathe("L-") for _ in range(6)], [0, 1, 3, 4, 5, None])
        self.assertEqual((row.lies(), row.standing(), len(row)), ([[], [2], []], (0, 1, 0), 1))
        row.scrape(1)
        self.assertEqual(row.breathe("L-"), 2)

    def test_all_sealed(self):
        row = row_with(ROOMS, ["L+", "R+"])
        for at in range(3):
            row.seal(at)
        self.assertEqual(row.sealed(), [0, 1, 2])
        before = row.lies()
        self.assertIsNone(row.breathe("L+", 5))
        self.assertIsNone(row.breathe("R+", 6))
        self.assertIsNone(row.breathe("L-"))
        self.assertIsNone(row.breathe("R-"))
        self.assertEqual((row.heard_at("left"), row.heard_at("right")), ([6, None], [5, None]))
        self.assertEqual(row.lies(), before)
        self.assertEqual(str(row), "([1/2] [0/1] [1/3])")

    def test_sealed_rising(self):
        row = Row((1,) * 12)
        for at in (11, 3, 0, 7):
            row.seal(at)
        self.assertEqual(kinds(row.sealed()), kinds([0, 3, 7, 11]))
        row.scrape(3)
        self.assertEqual(row.sealed(), [0, 7, 11])

    def test_a_bellows_that_is_not_there(self):
        row = filled(ROOMS)
        row.seal(2)
        for bellows in (3, 4, -1, -3, 100, 10 ** 12, -10 ** 12):
            self.assert_refused(NoBellows, row.seal, bellows, row)
            self.assert_refused(NoBellows, row.scrape, bellows, row)

    def test_sealed_already(self):
        row = filled(ROOMS)
        row.seal(2)
        self.assert_refused(Sealed, row.seal, 2, row)
        row.seal(0)
        self.assert_refused(Sealed, row.seal, 0, row)
        row.scrape(0)
        row.seal(0)
        self.assert_refused(Sealed, row.seal, 0, row)

    def test_open_already(self):
        row = filled(ROOMS)
        for bellows in range(3):
            self.assert_refused(Open, row.scrape, bellows, row)
        row.seal(1)
        row.scrape(1)
        self.assert_refused(Open, row.scrape, 1, row)
        self.assertEqual(row.sealed(), [])

    def test_what_was_ahead_of_a_refusal_is_as_it_was(self):
        row, same = filled(ROOMS), filled(ROOMS)
        row.seal(0)
        same.seal(0)
        self.assertRaises(Sealed, row.seal, 0)
        self.assertRaises(NoBellows, row.seal, 3)
        self.assertRaises(Open, row.scrape, 1)
        self.assertEqual(kinds(everything(row)), kinds(everything(same)))
        self.assertEqual(row.breathe("L-"), same.breathe("L-"))
        self.assertTrue(row == same)

    def test_as_a_row_of_the_open_ones_alone(self):
        chance = random.Random(94)
        for _ in range(40):
            rooms = some_rooms(chance, chance.randint(2, 8), 4)
            shut = sorted(chance.sample(range(len(rooms)), chance.randint(1, len(rooms) - 1)))
            still = [at for at in range(len(rooms)) if at not in shut]
            row, due = Row(rooms), Row([rooms[at] for at in still])
            for at in shut:
                row.seal(at)
            for slip in range(60):
                breath = chance.choice(BREATHS)
                told, other = row.breathe(breath, slip), due.breathe(breath, slip)
                if breath[1] == "+" and other is not None:
                    other = still[other]
                self.assertEqual(told, other)
            self.assertEqual([row.lies()[at] for at in still], due.lies())
            self.assertEqual([row.heard_at(side) for side in ("left", "right")],
                             [due.heard_at(side) for side in ("left", "right")])


class Saw(unittest.TestCase):
    def two(self):
        """Two full Rows with other slips, other ones heard, other bellows sealed."""
        one, other = filled(ROOMS), filled(ROOMS, 50)
        one.breathe("L+", 90)
        other.breathe("R+", 91)
        one.seal(1)
        other.seal(2)
        return one, other

    def test_at_each_gap(self):
        mine, its = [[0, 1], [2], [3, 4, 5]], [[50, 51], [52], [53, 54, 55]]
        for gap, sealed in [(0, ([2], [1])), (1, ([2], [1])), (2, ([1, 2], [])), (3, ([1], [2]))]:
            one, other = self.two()
            one.saw(other, gap)
            self.assertEqual(one.lies(), mine[:gap] + its[gap:])
            self.assertEqual(other.lies(), its[:gap] + mine[gap:])
            self.assertEqual((one.sealed(), other.sealed()), sealed)
            self.assertEqual((one.heard_at("left"), one.heard_at("right")), ([], [90]))
            self.assertEqual((other.heard_at("left"), other.heard_at("right")), ([91], []))

    def test_twice_is_as_it_was(self):
        for gap in range(4):
            one, other = self.two()
            one.saw(other, gap)
            one.saw(other, gap)
            self.assertTrue(one == self.two()[0] and other == self.two()[1])
            one.saw(other, gap)
            other.saw(one, gap)
            self.assertTrue(one == self.two()[0] and other == self.two()[1])

    def test_from_either(self):
        for gap in range(4):
            one, other = self.two()
            mine, its = self.two()
            one.saw(other, gap)
            its.saw(mine, gap)
            self.assertTrue(one == mine and other == its)

    def test_behind_it_each_goes_its_own_way(self):
        for gap in range(4):
            one, other = self.two()
            one.saw(other, gap)
            before = everything(other)
            for breath in BREATHS * 3:
                one.breathe(breath, 77)
            one.seal(0)
            self.assertEqual(everything(other), before)

    def test_by_the_rule(self):
        chance = random.Random(95)
        for _ in range(30):
            rooms = some_rooms(chance, chance.randint(1, 12), 5)
            rows, due = [Row(rooms), Row(list(rooms))], [SlowRow(rooms), SlowRow(rooms)]
            for slip in range(120):
                at = chance.randrange(2)
                breath = chance.choice(BREATHS + ("R+", "L+"))
                self.assertEqual(rows[at].breathe(breath, slip), due[at].breathe(breath, slip))
                if slip % 7 == 0:
                    gap = chance.randint(0, len(rooms))
                    rows[at].saw(rows[1 - at], gap)
                    due[at].saw(due[1 - at], gap)
                if slip % 40 == 3:
                    bellows = chance.randrange(len(rooms))
                    if bellows not in due[at].sealed:
                        rows[at].seal(bellows)
                        due[at].sealed.add(bellows)
                for row, other in zip(rows, due):
                    self.assertEqual(kinds(everything(row)), kinds(other.everything()))

    def test_counterparts_stay_so(self):
        chance = random.Random(96)
        for _ in range(30):
            rooms = some_rooms(chance, chance.randint(1, 12), 6)
            one, other = Row(rooms), filled(rooms)
            for slip, breath in enumerate(breaths_of(some_word(chance, 20, 6))):
                one.breathe(breath, slip)
                other.breathe(contrary([(breath, 1)])[0][0], slip)
                if slip % 5 == 0:
                    one.saw(other, chance.randint(0, len(rooms)))
                self.assertEqual(other.standing(), lacking(rooms, one.standing()))

    def assert_refused(self, error, one, other, gap):
        before = kinds([everything(one), everything(other)])
        with self.assertRaises(error) as caught:
            one.saw(other, gap)
        self.assertIs(type(caught.exception), error)
        self.assertEqual(kinds([everything(one), everything(other)]), before)
        return caught.exception

    def test_no_gap(self):
        for gap in (-1, 4, 5, -4, 10 ** 12, -10 ** 12):
            one, other = self.two()
            self.assertEqual(kinds(self.assert_refused(NoGap, one, other, gap).gap), kinds(gap))

    def test_unlike(self):
        for rooms in [(2, 1), (2, 1, 4), (2, 3, 1), (2, 1, 3, 1), (6,), (1, 2, 3)]:
            for gap in range(4):
                self.assert_refused(Unlike, filled(ROOMS), filled(rooms, 50), gap)

    def test_unlike_ahead_of_no_gap(self):
        for gap in (-1, 4, 100):
            self.assert_refused(Unlike, filled(ROOMS), filled((2, 1, 4), 50), gap)


class Twin(unittest.TestCase):
    def test_goes_its_own_way(self):
        row = row_with(ROOMS, ["L+", "R+", "L+", "L+", "R+", "R+", "L+", "R+"])
        row.seal(1)
        twin = row.twin()
        self.assertIs(type(twin), Row)
        self.assertTrue(row == twin)
        before = kinds(everything(row))
        self.assertEqual(kinds(everything(twin)), before)
        twin.breathe("L-")
        twin.breathe("L+", 70)
        twin.breathe("L+", 71)
        twin.breathe("R+", 72)
        twin.seal(0)
        twin.scrape(1)
        twin.saw(filled(ROOMS, 50), 1)
        self.assertEqual(kinds(everything(row)), before)
        told = kinds(everything(twin))
        for breath in BREATHS:
            row.breathe(breath, 80)
        row.scrape(1)
        self.assertEqual(kinds(everything(twin)), told)

    def test_tells_the_same_behind_the_same(self):
        row = row_with(ROOMS, ["L+", "R+", "L+"])
        twin = row.twin()
        for slip, breath in enumerate(BREATHS * 3):
            self.assertEqual(row.breathe(breath, slip), twin.breathe(breath, slip))
        self.assertTrue(row == twin)


class Equal(unittest.TestCase):
    def assert_equal(self, one, other, due):
        self.assertIs(one == other, due)
        self.assertIs(other == one, due)
        self.assertIs(one != other, not due)

    def test_alike(self):
        self.assert_equal(Row(ROOMS), Row(list(ROOMS)), True)
        self.assert_equal(filled(ROOMS), filled(ROOMS), True)
        one, other = row_with((3,), ["L+", "R+"]), Row((3,))
        other.breathe("R+", 1)
        other.breathe("L+", 0)
        self.assert_equal(one, other, True)

    def test_unlike_in_just_one_thing(self):
        self.assert_equal(Row((2, 1, 3)), Row((2, 1, 4)), False)
        self.assert_equal(Row((2, 1)), Row((2, 1, 1)), False)
        self.assert_equal(filled(ROOMS), filled(ROOMS, 1), False)
        self.assert_equal(row_with((3,), ["L+", "L+"]), row_with((3,), ["R+", "R+"]), False)
        for breath, other in [("L+", "R+"), ("L-", "R-")]:
            one, two, none = Row((1,)), Row((1,)), Row((1,))
            if breath == "L+":
                one, two, none = filled((1,)), filled((1,)), filled((1,))
            one.breathe(breath, 5)
            two.breathe(other, 5)
            self.assert_equal(one, two, False)
            self.assert_equal(one, none, False)
            self.assert_equal(two, none, False)
        one, other = filled((1,)), filled((1,))
        one.breathe("L+", 5)
        other.breathe("L+", 6)
        self.assert_equal(one, other, False)

    def test_unlike_in_what_is_sealed(self):
        one, other = Row(ROOMS), Row(ROOMS)
        one.seal(1)
        self.assert_equal(one, other, False)
        other.seal(2)
        self.assert_equal(one, other, False)
        one.seal(2)
        other.seal(1)
        self.assert_equal(one, other, True)
        one.scrape(1)
        self.assert_equal(one, other, False)

    def test_heard_in_another_order(self):
        one, other = filled((1,)), filled((1,))
        for slip in (5, 6):
            one.breathe("L+", slip)
        for slip in (6, 5):
            other.breathe("L+", slip)
        self.assert_equal(one, other, False)

    def test_slips_in_another_bellows(self):
        one, other = Row((1, 1)), Row((1, 1))
        one.breathe("L+", 5)
        other.breathe("R+", 5)
        self.assert_equal(one, other, False)

    def test_to_nothing_else(self):
        row = Row((1,))
        for thing in [None, True, False, 0, 1, "", str(row), "(0/1)", (), [], (1,), [[]], row.lies(), row.standing(),
                      everything(row), {}, object(), Row, SlowRow((1,))]:
            self.assert_equal(row, thing, False)


class LenAndStr(unittest.TestCase):
    def test_len(self):
        row = Row(ROOMS)
        self.assertEqual(len(row), 0)
        for many in range(1, 7):
            row.breathe("L+", many)
            self.assertEqual(len(row), many)
        row.breathe("L+", 7)
        self.assertEqual(len(row), 6)
        row.seal(2)
        self.assertEqual(len(row), 6)
        row.breathe("R-")
        self.assertEqual(len(row), 5)

    def test_str_as_the_document_writes_it(self):
        row = Row((3, 1, 4))
        row.breathe("L+", 0)
        row.breathe("L+", 1)
        row.breathe("R+", 2)
        self.assertEqual(str(row), "(2/3 0/1 1/4)")
        row.seal(1)
        self.assertEqual(str(row), "(2/3 [0/1] 1/4)")
        row.seal(0)
        row.seal(2)
        self.assertEqual(str(row), "([2/3] [0/1] [1/4])")
        self.assertIs(type(str(row)), str)

    def test_str_of_one_bellows_and_of_twelve(self):
        self.assertEqual(str(Row((1,))), "(0/1)")
        self.assertEqual(str(filled((99,))), "(99/99)")
        self.assertEqual(str(Row((99,) * 12)), "(" + " ".join(["0/99"] * 12) + ")")

    def test_great_rows(self):
        rooms = (99,) * 12
        row = filled(rooms)
        self.assertEqual((row.standing(), len(row)), (full(rooms), 1188))
        self.assertEqual(row.lies(), [list(range(99 * at, 99 * at + 99)) for at in range(12)])
        self.assertEqual(slow.behind(rooms, bare(rooms), [("R+", 1188)]), row.standing())


if __name__ == "__main__":
    unittest.main()
