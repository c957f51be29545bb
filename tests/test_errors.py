"""The error classes: bases, words and parameters."""

import unittest

from farlanes import errors

PLAIN = ["BadLanes", "OtherLanes", "BadPlan", "BadName", "Full", "BadDeed"]
WITH_ONE = {
    "BadLane": "lane",
    "BadPlace": "place",
    "BadGoal": "place",
    "NotBijective": "place",
    "TooWide": "most",
    "BadSpot": "spot",
    "TooMany": "most",
    "BadDegree": "degree",
    "BadMove": "at",
    "BadText": "at",
    "BadSyntax": "at",
    "BadProgram": "at",
    "Taken": "name",
    "Held": "by",
    "BadCount": "count",
    "Stopped": "at",
    "BadPage": "row",
}
LOST = ["NoName", "NoBead", "NoMap"]


def named(name):
    return getattr(errors, name)


class Bases(unittest.TestCase):
    def test_all_lane_errors_stand_directly_under_lane_error(self):
        for name in PLAIN + list(WITH_ONE):
            with self.subTest(name):
                self.assertEqual(named(name).__bases__, (errors.LaneError,))

    def test_none_under_lane_error_is_a_base_of_another(self):
        names = PLAIN + list(WITH_ONE)
        for one in names:
            for other in names:
                self.assertEqual(issubclass(named(one), named(other)), one == other)

    def test_the_bases_that_are_pythons_own(self):
        self.assertEqual(errors.LaneError.__bases__, (ValueError,))
        self.assertEqual(errors.Missing.__bases__, (LookupError,))
        self.assertEqual(errors.NothingLeft.__bases__, (IndexError,))

    def test_missing_is_the_base_of_three(self):
        for name in LOST:
            self.assertEqual(named(name).__bases__, (errors.Missing,))
            self.assertFalse(issubclass(named(name), errors.LaneError))

    def test_nothing_left_is_under_none_of_these(self):
        self.assertFalse(issubclass(errors.NothingLeft, (errors.LaneError, errors.Missing)))


class Attributes(unittest.TestCase):
    def test_errors_without_parameters(self):
        for name in ["LaneError", "NothingLeft"] + PLAIN:
            with self.subTest(name):
                self.assertEqual(vars(named(name)()), {"word": name})
                self.assertRaises(TypeError, named(name), 1)

    def test_errors_with_one_parameter(self):
        lost = {name: "name" for name in ["Missing"] + LOST}
        for name, field in {**WITH_ONE, **lost}.items():
            for value in (7, (0, -1), "x", ("road", 1, 2)):
                with self.subTest(name, value=value):
                    self.assertEqual(vars(named(name)(value)), {"word": name, field: value})
                    self.assertEqual(vars(named(name)(**{field: value})), {"word": name, field: value})
            self.assertRaises(TypeError, named(name))
            self.assertRaises(TypeError, named(name), 1, 2)

    def test_word_belongs_to_the_object(self):
        for name in PLAIN:
            self.assertFalse(hasattr(named(name), "word"))
            self.assertIn("word", vars(named(name)()))

    def test_they_can_be_raised_and_caught_by_their_bases(self):
        with self.assertRaises(ValueError):
            raise errors.BadPlace((0, -1))
        with self.assertRaises(LookupError):
            raise errors.NoMap("x")
        with self.assertRaises(IndexError):
            raise errors.NothingLeft()


if __name__ == "__main__":
    unittest.main()
