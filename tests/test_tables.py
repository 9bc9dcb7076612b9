import inspect
import random
import unittest

import slow
from breathrows.errors import Unlike
from breathrows.gaps import at_gap
from breathrows.tables import Table
from breathrows.words import nets
from handed import as_lists, as_tuples, exchanged, kinds
from slow import BREATHS, all_standings, some_rooms, some_standing, some_word

GREAT = 10 ** 9
ROOMS = (2, 1, 3)
SMALL = [(1,), (3,), (1, 1), (2, 3), (2, 1, 2), (1, 3, 1), (1, 1, 1, 2)]
WORD = [("L+", 4), ("R-", 2), ("R+", 5), ("L-", 1)]


def words_of(chance):
    told = [[]] + [[(breath, many)] for breath in BREATHS for many in (1, 3)]
    return told + [some_word(chance, runs, 5) for runs in (2, 3, 4, 7) for _ in range(3)]


def pairs_of(rooms, gap):
    """All pairs that can be at the gap."""
    return sorted(set(at_gap(rooms, standing, gap) for standing in all_standings(rooms)))


def everything(table):
    """All that the table tells."""
    numbers = range(sum(table.rooms()) + 1)
    return [table.rooms(), table.spot(), table.shift(), [table.total(many) for many in numbers],
            [table.walls(many) for many in numbers]]


class Interface(unittest.TestCase):
    def test_methods_and_their_arguments(self):
        due = {"leads": ["pair"], "total": ["many"], "walls": ["many"], "shift": [], "then": ["other"],
               "times": ["many"], "rooms": [], "spot": []}
        for name, arguments in due.items():
            self.assertIn(name, vars(Table))
            self.assertEqual(list(inspect.signature(getattr(Table, name)).parameters), ["self"] + arguments)
        self.assertIn("__eq__", vars(Table))
        parameters = inspect.signature(Table).parameters
        self.assertEqual(list(parameters), ["rooms", "gap", "word"])
        self.assertEqual(parameters["word"].default, ())

    def test_by_places_and_by_names(self):
        told = Table(ROOMS, 1, WORD)
        named = Table(word=WORD, gap=1, rooms=ROOMS)
        self.assertEqual(everything(told), everything(named))
        self.assertEqual(named.leads(pair=(1, 2)), told.leads((1, 2)))
        self.assertEqual(named.total(many=3), told.total(3))
        self.assertEqual(named.walls(many=3), told.walls(3))
        self.assertEqual(named.times(many=3), told.times(3))
        self.assertEqual(named.then(other=told), told.then(named))

    def test_no_word_left_out(self):
        self.assertEqual(everything(Table(ROOMS, 2)), everything(Table(ROOMS, 2, [])))
        self.assertEqual(everything(Table(rooms=ROOMS, gap=2)), everything(Table(ROOMS, 2, [])))

    def test_kinds_of_what_is_told(self):
        table = Table(list(ROOMS), 1, WORD)
        self.assertEqual(kinds(table.rooms()), kinds(ROOMS))
        self.assertEqual(kinds(table.spot()), kinds(1))
        self.assertEqual(kinds(table.shift()), kinds(3))
        self.assertEqual(kinds(table.leads([0, 1])), kinds((1, 4)))
        self.assertEqual(kinds(table.total(1)), kinds(5))
        self.assertEqual(kinds(table.walls(1)), kinds((1, 1)))
        self.assertIs(table == Table(ROOMS, 1, WORD), True)
        self.assertIs(table == Table(ROOMS, 1), False)
        self.assertIs(table != Table(ROOMS, 1), True)

    def test_lists_for_tuples_and_tuples_for_lists(self):
        due = everything(Table(ROOMS, 1, WORD))
        for shape in (as_lists, as_tuples, exchanged):
            table = Table(shape(ROOMS), 1, shape(WORD))
            self.assertEqual(kinds(everything(table)), kinds(due))
            self.assertEqual(kinds(table.leads(shape((1, 2)))), kinds(Table(ROOMS, 1, WORD).leads((1, 2))))

    def test_a_list_changed_behind(self):
        rooms, word, pair = [2, 1, 3], [["L+", 4], ["R-", 2], ["R+", 5], ["L-", 1]], [1, 2]
        table = Table(rooms, 1, word)
        told = table.leads(pair)
        self.assertEqual((rooms, word, pair), ([2, 1, 3], as_lists(WORD), [1, 2]))
        rooms[0] = 50
        rooms.append(4)
        word[0][1] = 99
        word.clear()
        pair[0] = 0
        self.assertEqual(everything(table), everything(Table(ROOMS, 1, WORD)))
        self.assertEqual(table.leads((1, 2)), told)
        self.assertEqual(everything(table.times(2)), everything(Table(ROOMS, 1, WORD + WORD)))
        self.assertEqual(everything(table.then(table)), everything(Table(ROOMS, 1, WORD + WORD)))

    def test_asking_changes_nothing(self):
        one, other = Table(ROOMS, 1, WORD), Table(ROOMS, 1, [("L-", 2)])
        before = everything(one), everything(other)
        one.then(other)
        other.then(one)
        one.times(0)
        one.times(1)
        one.times(7)
        one.leads((1, 2))
        self.assertEqual((everything(one), everything(other)), before)
        self.assertIsNot(one.times(1), one)


class Leads(unittest.TestCase):
    def test_by_hand(self):
        table = Table(ROOMS, 1, [("L+", 3)])
        self.assertEqual([table.total(many) for many in range(7)], [3, 4, 5, 6, 6, 6, 6])
        self.assertEqual([table.walls(many) for many in range(7)], [(2, 2)] * 7)
        self.assertEqual(table.leads((0, 1)), (2, 2))
        self.assertEqual(table.shift(), 3)
        table = Table(ROOMS, 1, [("R+", 1)])
        self.assertEqual([table.total(many) for many in range(7)], [1, 2, 3, 4, 5, 6, 6])
        self.assertEqual([table.walls(many) for many in range(7)],
                         [(0, 0), (0, 1), (0, 2), (0, 2), (1, 2), (2, 2), (2, 2)])
        self.assertEqual([table.leads(pair) for pair in [(0, 4), (1, 3), (2, 2), (0, 0)]],
                         [(1, 4), (1, 4), (2, 3), (0, 1)])
        self.assertEqual(table.shift(), 0)

    def test_no_word(self):
        for rooms in SMALL:
            for gap in range(len(rooms) + 1):
                table = Table(rooms, gap)
                for pair in pairs_of(rooms, gap):
                    self.assertEqual(table.leads(pair), pair)
                    self.assertEqual(table.total(sum(pair)), sum(pair))
                    numbers = [ahead for ahead, behind in pairs_of(rooms, gap) if ahead + behind == sum(pair)]
                    self.assertEqual(table.walls(sum(pair)), (min(numbers), max(numbers)))
                self.assertEqual(table.shift(), 0)

    def test_by_breaths_gone_one_by_one(self):
        chance = random.Random(31)
        for rooms in SMALL:
            for word in words_of(chance):
                behind = {standing: slow.behind(rooms, standing, word) for standing in all_standings(rooms)}
                for gap in range(len(rooms) + 1):
                    self.check(rooms, gap, word, behind)

    def check(self, rooms, gap, word, behind):
        table = Table(rooms, gap, word)
        by_number = {}
        for standing, after in behind.items():
            pair, due = at_gap(rooms, standing, gap), at_gap(rooms, after, gap)
            self.assertEqual(table.leads(pair), due, (rooms, gap, word, standing))
            by_number.setdefault(sum(pair), []).append(due)
        self.assertEqual(sorted(by_number), list(range(sum(rooms) + 1)))
        for many, pairs in by_number.items():
            self.assertEqual([table.total(many)] * len(pairs), [sum(pair) for pair in pairs])
            numbers = [ahead for ahead, _ in pairs]
            self.assertEqual(table.walls(many), (min(numbers), max(numbers)))
        self.assertEqual(table.shift(), nets(word)[0])

    def test_ahead_and_the_shift_brought_between_the_walls(self):
        chance = random.Random(32)
        for rooms in SMALL:
            for word in words_of(chance):
                for gap in range(len(rooms) + 1):
                    table = Table(rooms, gap, word).times(chance.choice([1, 2, 5, 10 ** 12]))
                    for ahead, behind in pairs_of(rooms, gap):
                        low, high = table.walls(ahead + behind)
                        due = sorted([low, ahead + table.shift(), high])[1]
                        told = table.leads((ahead, behind))
                        self.assertEqual(told, (due, table.total(ahead + behind) - due))

    def test_gap_nought_and_the_last_gap(self):
        table = Table(ROOMS, 0, [("L+", 2)])
        self.assertEqual([table.leads((0, many)) for many in range(7)],
                         [(0, 2), (0, 3), (0, 4), (0, 5), (0, 6), (0, 6), (0, 6)])
        self.assertEqual(table.walls(3), (0, 0))
        table = Table(ROOMS, 3, [("L+", 2)])
        self.assertEqual([table.leads((many, 0)) for many in range(7)],
                         [(2, 0), (3, 0), (4, 0), (5, 0), (6, 0), (6, 0), (6, 0)])
        self.assertEqual(table.walls(3), (5, 5))

    def test_great_rows_and_runs(self):
        chance = random.Random(33)
        for _ in range(3):
            rooms = some_rooms(chance, 12, 99)
            word = some_word(chance, 40, chance.choice([90, GREAT]))
            short = [(breath, min(many, sum(rooms) + 1)) for breath, many in word]
            for gap in (0, 1, 6, 12):
                table = Table(rooms, gap, word)
                self.assertEqual(table.shift(), nets(word)[0])
                standing = some_standing(chance, rooms)
                due = at_gap(rooms, slow.behind(rooms, standing, short), gap)
                self.assertEqual(table.leads(at_gap(rooms, standing, gap)), due)


class PutTogether(unittest.TestCase):
    def test_then(self):
        chance = random.Random(34)
        for rooms in SMALL:
            words = words_of(chance)
            for one in words:
                other = chance.choice(words)
                for gap in range(len(rooms) + 1):
                    told = Table(rooms, gap, one).then(Table(rooms, gap, other))
                    due = Table(rooms, gap, one + other)
                    self.assertEqual(everything(told), everything(due))
                    self.assertTrue(told == due)

    def test_times(self):
        chance = random.Random(35)
        for rooms in SMALL:
            for word in words_of(chance):
                for gap in range(len(rooms) + 1):
                    for many in (0, 1, 2, 3, chance.randint(4, 12), sum(rooms) + 1):
                        told = Table(rooms, gap, word).times(many)
                        self.assertEqual(everything(told), everything(Table(rooms, gap, word * many)))

    def test_times_very_often(self):
        chance = random.Random(36)
        for rooms in SMALL:
            for word in words_of(chance):
                gap = chance.randint(0, len(rooms))
                for many in (10 ** 12, 10 ** 12 - 1, 10 ** 40):
                    told = Table(rooms, gap, word).times(many)
                    # By then all stands still, so that one word more changes nothing but the shift.
                    due = everything(Table(rooms, gap, word * (sum(rooms) + 2)))
                    due[2] = nets(word)[0] * many
                    self.assertEqual(everything(told), due)

    def test_times_of_times(self):
        table = Table(ROOMS, 2, WORD)
        self.assertEqual(everything(table.times(6).times(7)), everything(table.times(42)))
        self.assertEqual(everything(table.times(5).then(table.times(4))), everything(table.times(9)))
        self.assertEqual(everything(table.times(10 ** 12).times(10 ** 12)), everything(table.times(10 ** 24)))

    def test_times_in_a_great_row(self):
        rooms = (99,) * 12
        told = Table(rooms, 5, [("L+", 1)])
        self.assertEqual(told.times(495).leads((0, 0)), (495, 0))
        self.assertEqual(told.times(496).leads((0, 0)), (495, 1))
        self.assertEqual(told.times(1187).leads((0, 0)), (495, 692))
        self.assertEqual(told.times(10 ** 12).leads((0, 0)), (495, 693))
        self.assertEqual(told.times(10 ** 12).shift(), 10 ** 12)

    def test_told_tables_are_objects_of_their_own(self):
        one = Table(ROOMS, 1, WORD)
        told = [one.times(1), one.times(1), one.then(Table(ROOMS, 1)), Table(ROOMS, 1).then(one)]
        for table in told:
            self.assertEqual(everything(table), everything(one))
        self.assertEqual(len(set(id(table) for table in told + [one])), 5)

    def test_unlike(self):
        wrong = [((2, 1, 3), 2), ((2, 1, 4), 1), ((2, 4), 1), ((2, 3, 1), 1), ((2, 1, 3, 1), 1), ((2, 1, 4), 2)]
        for rooms, gap in wrong:
            for word in ([], WORD):
                one, other = Table(ROOMS, 1, WORD), Table(rooms, gap, word)
                before = everything(one), everything(other)
                with self.assertRaises(Unlike) as caught:
                    one.then(other)
                self.assertIsInstance(caught.exception, ValueError)
                self.assertRaises(Unlike, other.then, one)
                self.assertEqual((everything(one), everything(other)), before)

    def test_like_though_made_of_a_list(self):
        one, other = Table(ROOMS, 1, WORD), Table(list(ROOMS), 1, WORD)
        self.assertEqual(everything(one.then(other)), everything(Table(ROOMS, 1, WORD + WORD)))


class Equal(unittest.TestCase):
    def assert_equal(self, one, other, due):
        self.assertIs(one == other, due)
        self.assertIs(other == one, due)
        self.assertIs(one != other, not due)

    def test_of_unlike_words_that_tell_alike(self):
        self.assert_equal(Table(ROOMS, 1, [("L+", 1), ("L+", 1)]), Table(ROOMS, 1, [("L+", 2)]), True)
        self.assert_equal(Table((1,), 0, [("L+", 1), ("R+", 1)]), Table((1,), 0, [("R+", 1), ("L+", 1)]), True)
        self.assert_equal(Table((1,), 1, [("L+", 5), ("L-", 5)]), Table((1,), 1, [("R-", 9)]), True)
        self.assert_equal(Table(ROOMS, 2), Table(list(ROOMS), 2, ()), True)

    def test_that_lead_alike_and_are_unlike(self):
        for rooms, gap, one, other in [
                ((1,), 1, [("L+", 1)], [("R+", 1)]),
                ((1,), 1, [("L+", 1)], [("L+", 2)]),
                (ROOMS, 0, [("L+", 1)], [("R+", 1)]),
                (ROOMS, 2, [("L+", 6)], [("L+", 7)])]:
            one, other = Table(rooms, gap, one), Table(rooms, gap, other)
            for pair in pairs_of(rooms, gap):
                self.assertEqual(one.leads(pair), other.leads(pair))
            self.assert_equal(one, other, False)

    def test_by_rooms_gaps_and_all_that_they_tell(self):
        self.assert_equal(Table(ROOMS, 1, WORD), Table(ROOMS, 2, WORD), False)
        self.assert_equal(Table((2, 1, 3), 1), Table((2, 3, 1), 1), False)
        self.assert_equal(Table((2, 4), 1), Table((2, 1, 3), 1), False)
        chance = random.Random(37)
        for rooms in SMALL:
            for gap in range(len(rooms) + 1):
                tables = [Table(rooms, gap, word) for word in words_of(chance)]
                for one in tables:
                    for other in tables:
                        self.assertIs(one == other, everything(one) == everything(other))

    def test_unlike_in_just_one_thing(self):
        # Rooms, the gap, the two words, and which row of everything alone differs.
        for rooms, one, other, at in [
                ((1, 1), [("L+", 1)], [("L+", 1), ("R+", 1)], [3]),
                ((1, 1), [("L+", 2)], [("L+", 1), ("R+", 1)], [2]),
                ((1, 2), [("R+", 1)], [("L+", 1), ("L-", 1), ("R+", 1)], [4]),
                ((1, 2), [("R-", 1)], [("L-", 1), ("L+", 1), ("R-", 1)], [4])]:
            one, other = Table(rooms, 1, one), Table(rooms, 1, other)
            told = zip(everything(one), everything(other))
            self.assertEqual([row for row, (mine, its) in enumerate(told) if mine != its], at)
            self.assert_equal(one, other, False)

    def test_unlike_in_one_wall(self):
        one, other = Table((1, 2), 1, [("R+", 1)]), Table((1, 2), 1, [("L+", 1), ("L-", 1), ("R+", 1)])
        self.assertEqual((one.walls(1), other.walls(1)), ((0, 1), (0, 0)))
        one, other = Table((1, 2), 1, [("R-", 1)]), Table((1, 2), 1, [("L-", 1), ("L+", 1), ("R-", 1)])
        self.assertEqual((one.walls(2), other.walls(2)), ((0, 1), (1, 1)))

    def test_other_things(self):
        table = Table(ROOMS, 1, WORD)
        for thing in [None, True, False, 0, 1, "", "Table", (), [], ROOMS, (ROOMS, 1, WORD), everything(table), {},
                      object(), Table]:
            self.assert_equal(table, thing, False)

    def test_two_to_which_the_same_was_done(self):
        def made():
            return Table(ROOMS, 2, WORD).times(3).then(Table(ROOMS, 2, [("R-", 2)])).times(10 ** 12)
        self.assertEqual(everything(made()), everything(made()))
        self.assert_equal(made(), made(), True)


if __name__ == "__main__":
    unittest.main()
