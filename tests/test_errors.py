import copy
import pickle
import unittest

from breathrows import errors

# Name, the class straight above it, the fields with which it is made.
REFUSALS = [
    ("BadGap", ValueError, ["gap"]),
    ("BadRooms", ValueError, []),
    ("BadText", ValueError, ["at"]),
    ("BadRow", ValueError, ["row"]),
    ("BadDeed", ValueError, ["at"]),
    ("Unlike", ValueError, []),
    ("NoPlace", LookupError, ["place"]),
    ("NoBellows", LookupError, ["bellows"]),
    ("NoGap", LookupError, ["gap"]),
    ("NoRow", KeyError, ["name"]),
    ("TooMany", OverflowError, ["many"]),
    ("TooLong", OverflowError, ["many"]),
    ("Known", RuntimeError, ["name"]),
    ("Sealed", RuntimeError, ["bellows"]),
    ("Open", RuntimeError, ["bellows"]),
]
WORTHS = [0, 7, -1, 10 ** 5000, "abc", ""]


class Refusals(unittest.TestCase):
    def made(self):
        for name, above, fields in REFUSALS:
            yield getattr(errors, name), above, fields

    def assert_fields(self, error, fields, worth):
        for field in fields:
            # No assertEqual: on a miss it would write out numbers too great for Python to write.
            self.assertTrue(getattr(error, field) == worth, field)
            self.assertIs(type(getattr(error, field)), type(worth))

    def test_stand_straight_under_their_class(self):
        for refusal, above, _ in self.made():
            with self.subTest(refusal=refusal.__name__):
                self.assertEqual(refusal.__bases__, (above,))

    def test_stand_under_no_other_refusal(self):
        for refusal, _, _ in self.made():
            for other, _, _ in self.made():
                with self.subTest(refusal=refusal.__name__, other=other.__name__):
                    self.assertEqual(issubclass(refusal, other), refusal is other)

    def test_stand_under_no_other_class_of_pythons(self):
        for refusal, above, _ in self.made():
            for other in (ValueError, LookupError, KeyError, OverflowError, RuntimeError, IndexError):
                with self.subTest(refusal=refusal.__name__, other=other.__name__):
                    self.assertEqual(issubclass(refusal, other), issubclass(above, other))

    def test_are_defined_in_errors(self):
        for refusal, _, _ in self.made():
            self.assertEqual(refusal.__module__, "breathrows.errors")

    def test_fields_by_place(self):
        for refusal, _, fields in self.made():
            for worth in WORTHS:
                with self.subTest(refusal=refusal.__name__):
                    self.assert_fields(refusal(*[worth for _ in fields]), fields, worth)

    def test_fields_by_name(self):
        for refusal, _, fields in self.made():
            for worth in WORTHS:
                with self.subTest(refusal=refusal.__name__):
                    self.assert_fields(refusal(**{field: worth for field in fields}), fields, worth)

    def test_wrongly_made(self):
        for refusal, _, fields in self.made():
            if not fields:
                continue
            with self.subTest(refusal=refusal.__name__):
                self.assertRaises(TypeError, refusal)
                self.assertRaises(TypeError, refusal, 1, 2)
                self.assertRaises(TypeError, refusal, other=1)

    def test_raised_and_caught(self):
        for refusal, above, fields in self.made():
            with self.subTest(refusal=refusal.__name__):
                with self.assertRaises(above) as caught:
                    raise refusal(*[5 for _ in fields])
                self.assertIs(type(caught.exception), refusal)
                self.assert_fields(caught.exception, fields, 5)

    def test_each_object_has_its_own_fields(self):
        for refusal, _, fields in self.made():
            with self.subTest(refusal=refusal.__name__):
                one = refusal(*[1 for _ in fields])
                other = refusal(*[2 for _ in fields])
                self.assert_fields(one, fields, 1)
                self.assert_fields(other, fields, 2)

    def test_copied_keep_their_fields(self):
        for refusal, _, fields in self.made():
            with self.subTest(refusal=refusal.__name__):
                error = refusal(*[5 for _ in fields])
                self.assert_fields(copy.copy(error), fields, 5)
                self.assert_fields(pickle.loads(pickle.dumps(error)), fields, 5)


if __name__ == "__main__":
    unittest.main()
