import unittest

from heightfractions import errors
from heightfractions.errors import HeightError

OF_TEXT = (
    "NoFraction", "TooMany", "TooFar", "NoNumber", "NoWeights", "NoSeries",
    "NoMoments", "NoFamily", "NoMeeting", "NoThing", "NoLine",
)
OF_FIELD = (
    ("NoText", "part", 2), ("NoWay", "at", 5), ("TooHigh", "height", 3),
    ("NoHistory", "at", 0), ("NoCount", "name", "peaks"), ("NoName", "name", "a"),
)
ALL = OF_TEXT + tuple(row[0] for row in OF_FIELD)


class ErrorsTest(unittest.TestCase):
    def test_height_error_stands_right_under_value_error(self):
        self.assertEqual(HeightError.__bases__, (ValueError,))
        self.assertEqual(str(HeightError("words")), "words")

    def test_each_stands_under_height_error_and_no_other_refusal(self):
        for name in ALL:
            with self.subTest(name):
                refusal = getattr(errors, name)
                self.assertTrue(issubclass(refusal, HeightError))
                self.assertTrue(issubclass(refusal, ValueError))
                for other in ALL:
                    if other != name:
                        self.assertFalse(issubclass(refusal, getattr(errors, other)))

    def test_no_refusal_is_another_one_by_another_name(self):
        self.assertEqual(len({getattr(errors, name) for name in ALL}), 17)

    def test_made_of_one_text(self):
        for name in OF_TEXT:
            with self.subTest(name):
                made = getattr(errors, name)("some words")
                self.assertEqual(str(made), "some words")

    def test_made_of_its_field(self):
        for name, field, value in OF_FIELD:
            with self.subTest(name):
                made = getattr(errors, name)(value)
                self.assertEqual(getattr(made, field), value)
                self.assertEqual(vars(made), {field: value})
                self.assertIsInstance(str(made), str)

    def test_taken_by_its_own_name_and_by_height_error(self):
        for name in ALL:
            for taken in (getattr(errors, name), HeightError, ValueError):
                with self.subTest(name), self.assertRaises(taken):
                    raise getattr(errors, name)(1)

    def test_each_object_has_its_own_field(self):
        first = errors.NoWay(1)
        second = errors.NoWay(2)
        self.assertEqual((first.at, second.at), (1, 2))


if __name__ == "__main__":
    unittest.main()
