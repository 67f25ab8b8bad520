"""The interface's section pairclubs/errors.py."""

import unittest

from pairclubs import errors
from pairclubs.errors import BadLine, BadPerson, BadTown, ClubError
from pairclubs.towns import clubs_of, members

SUBCLASSES = [
    "BadTown", "BadPerson", "BadClub", "BadNumber", "NotPairs",
    "Doubled", "NoClub", "NoStep", "BadText", "BadLine",
]
WITH_FIELDS = ["BadTown", "BadLine"]


class ErrorTests(unittest.TestCase):

    def test_base_class(self):
        self.assertEqual(ClubError.__bases__, (ValueError,))

    def test_all_ten_are_direct_subclasses(self):
        for name in SUBCLASSES:
            with self.subTest(name):
                self.assertEqual(getattr(errors, name).__bases__, (ClubError,))

    def test_there_are_no_other_errors(self):
        self.assertEqual(sorted(kind.__name__ for kind in ClubError.__subclasses__()), sorted(SUBCLASSES))

    def test_fields_of_bad_town(self):
        error = BadTown("clubs")
        self.assertEqual(vars(error), {"part": "clubs"})
        self.assertEqual(vars(BadTown(part="whole")), {"part": "whole"})

    def test_fields_of_bad_line(self):
        error = BadLine(2, 4)
        self.assertEqual(vars(error), {"line": 2, "word": 4})
        self.assertEqual(vars(BadLine(line=3, word=1)), {"line": 3, "word": 1})

    def test_the_others_have_no_fields(self):
        for name in SUBCLASSES:
            if name not in WITH_FIELDS:
                with self.subTest(name):
                    self.assertEqual(vars(getattr(errors, name)()), {})

    def test_raised_errors_are_club_errors_and_value_errors(self):
        for kind in (ClubError, ValueError):
            with self.assertRaises(kind) as caught:
                members(None)
            self.assertIs(type(caught.exception), BadTown)
            self.assertEqual(caught.exception.part, "whole")
            with self.assertRaises(kind) as caught:
                clubs_of((3, ()), 3)
            self.assertIs(type(caught.exception), BadPerson)


if __name__ == "__main__":
    unittest.main()
