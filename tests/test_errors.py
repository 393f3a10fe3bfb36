"""The exceptions, as the interface lists them."""

import copy
import unittest

from checking import Checking
from rolluplevels import errors

WITH_MESSAGE = (
    "SchemeError", "RollupError", "CellError", "OrderError", "TableError", "SumsError", "StoredError",
    "ReportError", "NumberError", "AmountError", "CubeError", "MatchError", "PlaceError", "TextError",
    "NothingDone",
)


class ErrorsTest(Checking):

    def test_levels_error_is_a_value_error(self):
        self.assertEqual(errors.LevelsError.__bases__, (ValueError,))
        self.assertEqual(str(errors.LevelsError("why")), "why")

    def test_each_is_derived_directly_from_levels_error(self):
        for name in WITH_MESSAGE + ("Unknown", "LimitError"):
            with self.subTest(name):
                kind = getattr(errors, name)
                self.assertEqual(kind.__bases__, (errors.LevelsError,))
                self.assertEqual(kind.__module__, "rolluplevels.errors")
                self.assertEqual(kind.__name__, name)

    def test_each_is_made_with_a_message(self):
        for name in WITH_MESSAGE:
            with self.subTest(name):
                kind = getattr(errors, name)
                with self.assertRaises(errors.LevelsError) as caught:
                    raise kind("why")
                self.assertIs(type(caught.exception), kind)
                self.assertEqual(str(caught.exception), "why")

    def test_unknown_has_two_fields(self):
        one, other = (0, 1), (1, 0)
        error = errors.Unknown(one, other)
        self.assert_same((error.one, error.other), ((0, 1), (1, 0)))
        error = errors.Unknown(other=other, one=one)
        self.assert_same((error.one, error.other), ((0, 1), (1, 0)))

    def test_limit_error_has_two_fields(self):
        error = errors.LimitError(9, 8)
        self.assert_same((error.amount, error.limit), (9, 8))
        error = errors.LimitError(limit=8, amount=9)
        self.assert_same((error.amount, error.limit), (9, 8))

    def test_two_fields_are_required(self):
        for kind in (errors.Unknown, errors.LimitError):
            with self.assertRaises(TypeError):
                kind()
            with self.assertRaises(TypeError):
                kind("message")
            with self.assertRaises(TypeError):
                kind(1, 2, 3)

    def test_copies_have_the_fields(self):
        unknown = copy.deepcopy(errors.Unknown((0, 1), (1, 0)))
        self.assert_same((unknown.one, unknown.other), ((0, 1), (1, 0)))
        limited = copy.deepcopy(errors.LimitError(9, 8))
        self.assert_same((limited.amount, limited.limit), (9, 8))


if __name__ == "__main__":
    unittest.main()
