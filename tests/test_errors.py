"""Point 2: the errors, their base classes and their attributes."""

import unittest

from untilrows import errors
from untilrows.errors import RowsError

ARGUMENTS = {
    "EmptyRow": {"first": 5, "end": 4},
    "EmptyStretch": {"first": 5, "last": 4},
    "Unordered": {"index": 1},
    "Clash": {"earlier": (1, 4, "a"), "later": (4, None, 7)},
    "BadLine": {"number": 1},
    "TooMany": {"most": 3},
    "TooFar": {"number": 2},
    "NoDay": {"number": 4},
    "OtherEnds": {"ends": "next day"},
    "NotAllowed": {"word": "give"},
    "Unknown": {"word": "gave"},
    "Twice": {"number": 6},
    "TwoRows": {"earlier": (1, 1, 1), "later": (3, None, 2)},
    "NothingWrong": {},
    "NoScene": {},
    "HasHeads": {},
    "BadTurns": {"turns": "1212"},
    "Refused": {"index": 0, "name": "close", "why": "unknown"},
}


class ErrorsTest(unittest.TestCase):
    def test_the_base_class_is_directly_under_value_error(self):
        self.assertEqual(RowsError.__bases__, (ValueError,))

    def test_there_are_eighteen_errors_directly_under_the_base_class(self):
        self.assertEqual(len(ARGUMENTS), 18)
        for name in ARGUMENTS:
            with self.subTest(name):
                self.assertEqual(getattr(errors, name).__bases__, (RowsError,))
        self.assertEqual({error.__name__ for error in RowsError.__subclasses__()}, set(ARGUMENTS))

    def test_all_errors_are_defined_in_their_file(self):
        for name in ["RowsError", *ARGUMENTS]:
            with self.subTest(name):
                self.assertEqual(getattr(errors, name).__module__, "untilrows.errors")
                self.assertEqual(getattr(errors, name).__name__, name)

    def test_attributes_have_the_names_and_the_order_of_the_arguments(self):
        for name, told in ARGUMENTS.items():
            with self.subTest(name):
                error = getattr(errors, name)(*told.values())
                self.assertEqual(list(vars(error).items()), list(told.items()))

    def test_arguments_may_be_given_by_name(self):
        for name, told in ARGUMENTS.items():
            with self.subTest(name):
                error = getattr(errors, name)(**told)
                self.assertEqual(vars(error), told)

    def test_each_error_takes_just_its_arguments(self):
        for name, told in ARGUMENTS.items():
            if told:
                with self.subTest(name):
                    with self.assertRaises(TypeError):
                        getattr(errors, name)(*list(told.values())[1:])
                    with self.assertRaises(TypeError):
                        getattr(errors, name)(*told.values(), 1)


if __name__ == "__main__":
    unittest.main()
