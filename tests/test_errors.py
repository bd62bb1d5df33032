"""The refusals: how they stand to one another, and their fields."""

import copy
import unittest

from tierstore import errors

WORDED = ("BadKey", "BadValue", "BadDeed", "BadStamp", "BadSieve", "BadRow")
FIELDS = {
    "BadRun": "line",
    "BadJournal": "place",
    "BadTiers": "line",
    "NoFile": "name",
    "Stopped": "step",
    "NoSnapshot": "stamp",
    "BadFile": "name",
}
ALL = WORDED + tuple(FIELDS)
# The last number is longer than Python will write out in figures.
CONTENTS = (0, 1, -1, 7, 999999999, 1000000000, 10 ** 5000, "", "7", "run0000012", " ", "two\nrows", "{line}")


def raised(error):
    """The thing taken, when the error is raised, by each class that takes it."""
    takers = []
    for name in ALL + ("TierError",):
        try:
            try:
                raise error
            except getattr(errors, name) as taken:
                assert taken is error
                takers.append(name)
        except ValueError:
            pass
    return takers


class Classes(unittest.TestCase):
    def test_tier_error_is_a_value_error(self):
        self.assertEqual(errors.TierError.__bases__, (ValueError,))

    def test_all_stand_side_by_side_right_under_tier_error(self):
        for name in ALL:
            with self.subTest(name):
                self.assertEqual(getattr(errors, name).__bases__, (errors.TierError,))

    def test_each_is_taken_as_itself_and_as_tier_error_and_as_no_other(self):
        for name in ALL:
            with self.subTest(name):
                self.assertEqual(raised(getattr(errors, name)("some words")), [name, "TierError"])

    def test_each_is_taken_as_value_error(self):
        for name in ALL:
            with self.subTest(name):
                with self.assertRaises(ValueError):
                    raise getattr(errors, name)("some words")

    def test_tier_error_by_itself_is_none_of_those_under_it(self):
        self.assertEqual(raised(errors.TierError("some words")), ["TierError"])

    def test_those_made_of_words_say_them(self):
        for name in WORDED:
            with self.subTest(name):
                self.assertEqual(str(getattr(errors, name)("some words")), "some words")


class Fields(unittest.TestCase):
    def test_each_field_has_just_what_its_error_was_made_of(self):
        for name, field in FIELDS.items():
            for place, content in enumerate(CONTENTS):
                with self.subTest(name, place=place):
                    kept = getattr(getattr(errors, name)(content), field)
                    self.assertIs(kept, content)

    def test_each_object_has_a_field_of_its_own(self):
        for name, field in FIELDS.items():
            with self.subTest(name):
                first = getattr(errors, name)(1)
                second = getattr(errors, name)("2")
                self.assertEqual((getattr(first, field), getattr(second, field)), (1, "2"))

    def test_the_field_is_there_when_the_error_is_taken(self):
        for name, field in FIELDS.items():
            with self.subTest(name):
                with self.assertRaises(errors.TierError) as taken:
                    raise getattr(errors, name)(12)
                self.assertEqual(getattr(taken.exception, field), 12)

    def test_a_copy_has_the_same_field(self):
        for name, field in FIELDS.items():
            with self.subTest(name):
                self.assertEqual(getattr(copy.copy(getattr(errors, name)(12)), field), 12)


if __name__ == "__main__":
    unittest.main()
