import copy
import inspect
import itertools
import unittest

from breathrows import rows
from breathrows.errors import NoPlace
from breathrows.rows import bare, full, how_many, is_rooms, is_standing, lacking, place_of, standing_at
from things import NEITHER, is_plain_number, nested

SMALL = [rooms for size in (1, 2, 3, 4) for rooms in itertools.product((1, 2, 3), repeat=size)] + [(99,), (1, 9, 2)]
LONG = [
    (99,) * 12,
    (1,) * 12,
    tuple(range(88, 100)),
    (99, 1, 50, 2, 7, 99, 98, 1, 1, 30, 64, 99),
]
# Beyond the bounds nothing is refused.
BEYOND = [(99,) * 13, (100, 1000, 10 ** 12)]


def all_standings(rooms):
    """All standings of the rooms, rising."""
    return list(itertools.product(*[range(room + 1) for room in rooms]))


def is_tuple_of_numbers(told):
    return type(told) is tuple and all(is_plain_number(number) for number in told)


def sample_places(many):
    """Places spread over so many, with both ends."""
    step = many // 97 + 1
    return sorted(set(list(range(0, many, step)) + [0, many - 1, many // 2]))


class Interface(unittest.TestCase):
    ARGUMENTS = {
        "is_rooms": ["thing"],
        "is_standing": ["rooms", "thing"],
        "bare": ["rooms"],
        "full": ["rooms"],
        "lacking": ["rooms", "standing"],
        "how_many": ["rooms"],
        "place_of": ["rooms", "standing"],
        "standing_at": ["rooms", "place"],
    }

    def test_names_of_arguments(self):
        for name, arguments in self.ARGUMENTS.items():
            with self.subTest(name=name):
                parameters = inspect.signature(getattr(rows, name)).parameters
                self.assertEqual(list(parameters), arguments)

    def test_arguments_by_names(self):
        self.assertIs(is_rooms(thing=(3, 1)), True)
        self.assertIs(is_standing(thing=(3, 1), rooms=(3, 1)), True)
        self.assertIs(is_standing(thing=(3, 1), rooms=(1, 3)), False)
        self.assertEqual(bare(rooms=(3, 1)), (0, 0))
        self.assertEqual(full(rooms=(3, 1)), (3, 1))
        self.assertEqual(lacking(standing=(2, 1), rooms=(3, 1)), (1, 0))
        self.assertEqual(how_many(rooms=(3, 1)), 8)
        self.assertEqual(place_of(standing=(2, 1), rooms=(3, 1)), 5)
        self.assertEqual(standing_at(place=5, rooms=(3, 1)), (2, 1))
        with self.assertRaises(NoPlace):
            standing_at(place=8, rooms=(3, 1))


class IsRooms(unittest.TestCase):
    def test_rooms(self):
        for thing in SMALL + LONG + BEYOND + [(1,), (1, 1), (99, 1)]:
            with self.subTest(thing=thing):
                self.assertIs(is_rooms(thing), True)

    def test_the_bare_tuple(self):
        self.assertIs(is_rooms(()), False)

    def test_a_list_for_the_tuple(self):
        for rooms in SMALL:
            with self.subTest(rooms=rooms):
                self.assertIs(is_rooms(list(rooms)), False)

    def test_one_wrong_member(self):
        wrong = [0, -1, -99, True, False, None, "1", "", (1,), [1], (), [], ((1,),)]
        for rooms in [(2,), (2, 3), (4, 1, 2)] + LONG:
            for at in range(len(rooms)):
                for member in wrong:
                    thing = rooms[:at] + (member,) + rooms[at + 1:]
                    with self.subTest(thing=thing):
                        self.assertIs(is_rooms(thing), False)

    def test_within_another_one(self):
        for depth in range(1, 8):
            for kind in (list, tuple):
                with self.subTest(depth=depth, kind=kind):
                    self.assertIs(is_rooms(nested((1, 2), kind, depth)), False)

    def test_other_things(self):
        for thing in NEITHER:
            with self.subTest(thing=thing):
                self.assertIs(is_rooms(thing), False)


class IsStanding(unittest.TestCase):
    MEMBERS = [-1, 0, 1, 2, 3, True, False, None, "1", (), (1,), [1]]

    def test_all_small_tuples(self):
        for rooms in [(1,), (2,), (1, 1), (2, 1), (1, 3), (1, 2, 1), (3, 2, 2)]:
            standings = all_standings(rooms)
            for size in range(4):
                for thing in itertools.product(self.MEMBERS, repeat=size):
                    due = is_tuple_of_numbers(thing) and thing in standings
                    self.assertIs(is_standing(rooms, thing), due, (rooms, thing))
                    self.assertIs(is_standing(list(rooms), thing), due, (rooms, thing))
                    self.assertIs(is_standing(rooms, list(thing)), False, (rooms, thing))

    def test_long_ones(self):
        for rooms in LONG + BEYOND:
            self.assertIs(is_standing(rooms, rooms), True)
            self.assertIs(is_standing(rooms, (0,) * len(rooms)), True)
            self.assertIs(is_standing(rooms, tuple([room // 2 for room in rooms])), True)

    def test_one_more_than_its_room_or_fewer_than_none(self):
        for rooms in LONG + [(3,), (1, 1), (2, 5)]:
            for at in range(len(rooms)):
                for member in (rooms[at] + 1, -1, 10 ** 30, -10 ** 30):
                    for others in (rooms, (0,) * len(rooms)):
                        thing = others[:at] + (member,) + others[at + 1:]
                        with self.subTest(rooms=rooms, thing=thing):
                            self.assertIs(is_standing(rooms, thing), False)

    def test_one_number_more_or_fewer(self):
        for rooms in SMALL + LONG:
            with self.subTest(rooms=rooms):
                self.assertIs(is_standing(rooms, rooms + (0,)), False)
                self.assertIs(is_standing(rooms, (0,) + rooms), False)
                self.assertIs(is_standing(rooms, rooms[:-1]), False)
                self.assertIs(is_standing(rooms, rooms[1:]), False)
                self.assertIs(is_standing(rooms, ()), False)

    def test_true_for_one_and_false_for_none(self):
        self.assertIs(is_standing((1,), (1,)), True)
        self.assertIs(is_standing((1,), (True,)), False)
        self.assertIs(is_standing((1,), (False,)), False)
        self.assertIs(is_standing((2, 2), (1, True)), False)

    def test_a_list_for_rooms(self):
        self.assertIs(is_standing([3, 1], (3, 1)), True)
        self.assertIs(is_standing([3, 1], (3, 2)), False)
        self.assertIs(is_standing([3, 1], [3, 1]), False)

    def test_within_another_one(self):
        for depth in range(1, 8):
            for kind in (list, tuple):
                with self.subTest(depth=depth, kind=kind):
                    self.assertIs(is_standing((2, 2), nested((1, 2), kind, depth)), False)
                    self.assertIs(is_standing((2,), nested((1,), kind, depth)), False)

    def test_other_things(self):
        for thing in NEITHER:
            for rooms in [(1,), (3,), (1, 1), (5, 5), (4, 4, 4), (1,) * 12]:
                with self.subTest(rooms=rooms, thing=thing):
                    self.assertIs(is_standing(rooms, thing), False)


class Standings(unittest.TestCase):
    def assert_told(self, told, due):
        self.assertEqual(told, due)
        self.assertTrue(is_tuple_of_numbers(told), told)

    def test_bare(self):
        self.assert_told(bare((3,)), (0,))
        self.assert_told(bare((3, 1, 4)), (0, 0, 0))
        for rooms in SMALL + LONG + BEYOND:
            self.assert_told(bare(rooms), (0,) * len(rooms))
            self.assert_told(bare(list(rooms)), (0,) * len(rooms))

    def test_full(self):
        self.assert_told(full((3,)), (3,))
        self.assert_told(full((3, 1, 4)), (3, 1, 4))
        for rooms in SMALL + LONG + BEYOND:
            self.assert_told(full(rooms), rooms)
            self.assert_told(full(list(rooms)), rooms)

    def test_lacking(self):
        self.assert_told(lacking((3,), (1,)), (2,))
        self.assert_told(lacking((3, 1, 4), (2, 0, 4)), (1, 1, 0))
        self.assert_told(lacking([3, 1, 4], (2, 0, 4)), (1, 1, 0))
        self.assert_told(lacking((3, 1, 4), [2, 0, 4]), (1, 1, 0))
        self.assert_told(lacking([3, 1, 4], [2, 0, 4]), (1, 1, 0))

    def test_lacking_of_bare_and_full(self):
        for rooms in SMALL + LONG + BEYOND:
            self.assert_told(lacking(rooms, bare(rooms)), full(rooms))
            self.assert_told(lacking(rooms, full(rooms)), bare(rooms))

    def test_lacking_and_the_standing_make_the_rooms(self):
        for rooms in SMALL:
            for standing in all_standings(rooms):
                told = lacking(rooms, standing)
                self.assertEqual([one + other for one, other in zip(told, standing)], list(rooms))
                self.assertTrue(is_standing(rooms, told))

    def test_lacking_twice_is_the_standing(self):
        for rooms in SMALL:
            for standing in all_standings(rooms):
                self.assert_told(lacking(rooms, lacking(rooms, standing)), standing)
        for rooms in LONG:
            for place in sample_places(how_many(rooms)):
                standing = standing_at(rooms, place)
                self.assert_told(lacking(rooms, lacking(rooms, standing)), standing)


class Places(unittest.TestCase):
    def test_how_many(self):
        self.assertEqual(how_many((1,)), 2)
        self.assertEqual(how_many((3, 1, 4)), 40)
        self.assertEqual(how_many([3, 1, 4]), 40)
        self.assertEqual(how_many((99,) * 12), 100 ** 12)
        self.assertEqual(how_many((1,) * 12), 4096)
        for rooms in SMALL:
            self.assertEqual(how_many(rooms), len(all_standings(rooms)))
            self.assertTrue(is_plain_number(how_many(rooms)))

    def test_all_small_ones_in_rising_order(self):
        for rooms in SMALL:
            told = [standing_at(rooms, place) for place in range(how_many(rooms))]
            self.assertEqual(told, all_standings(rooms))
            self.assertEqual(told, sorted(told))
            self.assertTrue(all(is_tuple_of_numbers(standing) for standing in told))
            places = [place_of(rooms, standing) for standing in told]
            self.assertEqual(places, list(range(len(told))))
            self.assertTrue(all(is_plain_number(place) for place in places))

    def test_the_first_bellows_weighs_most(self):
        self.assertEqual([standing_at((1, 2), place) for place in range(6)],
                         [(0, 0), (0, 1), (0, 2), (1, 0), (1, 1), (1, 2)])
        self.assertEqual(place_of((1, 2), (1, 0)), 3)

    def test_first_and_last(self):
        for rooms in SMALL + LONG + BEYOND:
            self.assertEqual(place_of(rooms, bare(rooms)), 0)
            self.assertEqual(standing_at(rooms, 0), bare(rooms))
            self.assertEqual(place_of(rooms, full(rooms)), how_many(rooms) - 1)
            self.assertEqual(standing_at(rooms, how_many(rooms) - 1), full(rooms))

    def test_lists_for_tuples(self):
        for standing in all_standings((2, 1, 3)):
            place = place_of((2, 1, 3), standing)
            self.assertEqual(place_of([2, 1, 3], standing), place)
            self.assertEqual(place_of((2, 1, 3), list(standing)), place)
            self.assertEqual(place_of([2, 1, 3], list(standing)), place)
            told = standing_at([2, 1, 3], place)
            self.assertEqual(told, standing)
            self.assertTrue(is_tuple_of_numbers(told))

    def test_twelve_rooms_of_99_are_pairs_of_figures(self):
        rooms = (99,) * 12
        self.assertEqual(place_of(rooms, tuple(range(1, 13))), 10203040506070809101112)
        self.assertEqual(standing_at(rooms, 10203040506070809101112), tuple(range(1, 13)))
        self.assertEqual(standing_at(rooms, 990000000000000000000098), (99,) + (0,) * 10 + (98,))

    def test_long_ones_each_way(self):
        for rooms in LONG:
            before = None
            for place in sample_places(how_many(rooms)):
                standing = standing_at(rooms, place)
                self.assertTrue(is_standing(rooms, standing))
                self.assertEqual(place_of(rooms, standing), place)
                self.assertTrue(before is None or before < standing)
                before = standing

    def test_neighbours_of_long_ones(self):
        rooms = LONG[3]
        place = how_many(rooms) // 3
        told = [standing_at(rooms, place + more) for more in range(300)]
        self.assertEqual(told, sorted(set(told)))
        self.assertEqual([place_of(rooms, standing) for standing in told], list(range(place, place + 300)))


class NoPlaces(unittest.TestCase):
    def assert_none(self, rooms, place):
        with self.assertRaises(NoPlace) as caught:
            standing_at(rooms, place)
        # No assertEqual: on a miss it would write out numbers too great for Python to write.
        self.assertTrue(caught.exception.place == place)
        self.assertTrue(is_plain_number(caught.exception.place))

    def test_below_nought(self):
        for rooms in SMALL + LONG:
            for place in (-1, -2, -how_many(rooms), -how_many(rooms) - 1, -10 ** 30):
                self.assert_none(rooms, place)

    def test_just_how_many_there_are_and_more(self):
        for rooms in SMALL + LONG:
            many = how_many(rooms)
            for place in (many, many + 1, 2 * many, 10 ** 30):
                self.assert_none(rooms, place)
                self.assert_none(list(rooms), place)

    def test_greater_than_python_writes(self):
        self.assert_none((3, 1), 10 ** 5000)
        self.assert_none((3, 1), -10 ** 5000)

    def test_is_a_lookup_error(self):
        with self.assertRaises(LookupError):
            standing_at((3, 1), 8)


class HandedIn(unittest.TestCase):
    # Each with arguments that are all lists.
    CALLS = [
        (is_standing, [[3, 1], [2, 1]]),
        (is_rooms, [[3, 1]]),
        (bare, [[3, 1]]),
        (full, [[3, 1]]),
        (lacking, [[3, 1], [2, 1]]),
        (how_many, [[3, 1]]),
        (place_of, [[3, 1], [2, 1]]),
    ]

    def test_is_as_it_was(self):
        for ask, arguments in self.CALLS:
            with self.subTest(ask=ask.__name__):
                before = copy.deepcopy(arguments)
                ask(*arguments)
                self.assertEqual(arguments, before)
        rooms = [3, 1]
        standing_at(rooms, 5)
        self.assertRaises(NoPlace, standing_at, rooms, 8)
        self.assertEqual(rooms, [3, 1])

    def test_is_not_kept(self):
        for ask, arguments in self.CALLS:
            with self.subTest(ask=ask.__name__):
                mine = copy.deepcopy(arguments)
                told = ask(*mine)
                before = copy.deepcopy(told)
                for argument in mine:
                    argument[0] = 50
                self.assertEqual(told, before)

    def test_told_the_same_again(self):
        for ask, arguments in self.CALLS:
            with self.subTest(ask=ask.__name__):
                self.assertEqual(ask(*arguments), ask(*arguments))
        self.assertEqual(standing_at((3, 1), 5), standing_at((3, 1), 5))


if __name__ == "__main__":
    unittest.main()
