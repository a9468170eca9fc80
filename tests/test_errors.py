"""The errors of the interface."""

import unittest

from showhouse import errors

NAMES = [
    "BadKind", "BadOperator", "BadTerm", "BadSaying", "BadShowing", "BadSize", "BadName", "TooMuch",
    "BadText", "BadEntry", "BadDeeds", "NoDeed", "Busy",
]


class Errors(unittest.TestCase):
    def test_house_error_is_a_value_error(self):
        self.assertEqual(errors.HouseError.__bases__, (ValueError,))

    def test_each_error_is_a_direct_subclass_defined_here(self):
        for name in NAMES:
            with self.subTest(name):
                found = getattr(errors, name)
                self.assertEqual(found.__bases__, (errors.HouseError,))
                self.assertEqual(found.__module__, "showhouse.errors")
                self.assertEqual(found.__name__, name)

    def test_there_are_no_other_errors(self):
        found = [name for name, value in vars(errors).items() if isinstance(value, type)]
        self.assertEqual(sorted(found), sorted(NAMES + ["HouseError"]))

    def test_a_bad_text_has_a_row(self):
        for row in (0, 7):
            with self.assertRaises(errors.HouseError) as caught:
                raise errors.BadText(row)
            self.assertEqual(caught.exception.row, row)

    def test_a_bad_entry_has_a_place(self):
        for at in (0, 7):
            with self.assertRaises(errors.HouseError) as caught:
                raise errors.BadEntry(at)
            self.assertEqual(caught.exception.at, at)

    def test_the_others_are_raised_with_words(self):
        for name in NAMES:
            if name in ("BadText", "BadEntry"):
                continue
            with self.subTest(name), self.assertRaisesRegex(getattr(errors, name), "words"):
                raise getattr(errors, name)("words")


if __name__ == "__main__":
    unittest.main()
