"""What [2] promises of all that is handed in and told, for any table of calls."""

import copy
import inspect


def as_lists(thing):
    """The same with a list for each tuple, at any depth."""
    return [as_lists(inner) for inner in thing] if isinstance(thing, (list, tuple)) else thing


def as_tuples(thing):
    return tuple(as_tuples(inner) for inner in thing) if isinstance(thing, (list, tuple)) else thing


def exchanged(thing):
    """The same with a list for each tuple and a tuple for each list, at any depth."""
    if isinstance(thing, tuple):
        return [exchanged(inner) for inner in thing]
    if isinstance(thing, list):
        return tuple(exchanged(inner) for inner in thing)
    return thing


def kinds(thing):
    """The thing with the kind of each of its parts, so that True isn't 1 and a list no tuple."""
    if isinstance(thing, (list, tuple)):
        return type(thing).__name__, [kinds(inner) for inner in thing]
    return type(thing).__name__, thing


def spoil(thing):
    """Changes all lists in the thing, at any depth."""
    if isinstance(thing, (list, tuple)):
        for inner in thing:
            spoil(inner)
    if isinstance(thing, list):
        thing.clear()
        thing.append("spoilt")


class Calls:
    """Mixed into a test case with CALLS: the function, its arguments by name, in their order, what is told."""

    CALLS = []

    def each(self):
        for ask, arguments, due in self.CALLS:
            with self.subTest(ask=ask.__name__, arguments=arguments):
                yield ask, copy.deepcopy(arguments), due

    def assert_told(self, told, due):
        self.assertEqual(kinds(told), kinds(due))

    def test_names_of_arguments(self):
        for ask, arguments, _ in self.each():
            self.assertEqual(list(inspect.signature(ask).parameters), list(arguments))

    def test_by_places_and_by_names(self):
        for ask, arguments, due in self.each():
            self.assert_told(ask(*arguments.values()), due)
            self.assert_told(ask(**arguments), due)
            self.assert_told(ask(**dict(reversed(arguments.items()))), due)

    def test_lists_for_tuples_and_tuples_for_lists(self):
        for ask, arguments, due in self.each():
            for shape in (as_lists, as_tuples, exchanged):
                self.assert_told(ask(*[shape(argument) for argument in arguments.values()]), due)

    def test_what_is_handed_in_is_as_it_was(self):
        for ask, arguments, _ in self.each():
            for shape in (as_lists, exchanged, copy.deepcopy):
                mine = [shape(argument) for argument in arguments.values()]
                before = copy.deepcopy(mine)
                ask(*mine)
                self.assertEqual(kinds(mine), kinds(before))

    def test_what_is_handed_in_is_not_kept(self):
        for ask, arguments, due in self.each():
            mine = [as_lists(argument) for argument in arguments.values()]
            told = ask(*mine)
            spoil(mine)
            self.assert_told(told, due)

    def test_told_changed_and_told_again(self):
        for ask, arguments, due in self.each():
            told = ask(**arguments)
            again = ask(**arguments)
            spoil(told)
            self.assert_told(again, due)
            self.assert_told(ask(**arguments), due)
