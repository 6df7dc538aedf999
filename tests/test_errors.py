"""[4]: the errors."""

import unittest

from pagesagain import errors
from tests.helper import KEPT, NO_INTEGERS, NO_SEQUENCES, Case


class Errors(Case):
    def test_what_each_derives_from(self):
        self.assertEqual(errors.PageError.__bases__, (ValueError,))
        for name in ("BadMachine", "BadRow", "BadPage", "BadText", "Refused", "TooGreat"):
            self.assertEqual(getattr(errors, name).__bases__, (errors.PageError,))
        for name in ("NoState", "NoDeed"):
            self.assertEqual(getattr(errors, name).__bases__, (KeyError,))

    def test_arguments_are_kept_themselves_by_place_and_by_name(self):
        for error, name in KEPT.items():
            for value in NO_INTEGERS + NO_SEQUENCES + [object(), 1.5, {}, b"x"]:
                self.assertIs(getattr(error(value), name), value)
                self.assertIs(getattr(error(**{name: value}), name), value)

    def test_a_kept_list_is_no_copy(self):
        value = [1]
        error = errors.Refused(value)
        value.append(2)
        self.assertEqual(error.at, [1, 2])

    def test_arguments_are_needed(self):
        for error in KEPT:
            self.assertRaises(TypeError, error)

    def test_they_are_raised_and_caught_as_their_bases(self):
        for error in KEPT:
            base = KeyError if error in (errors.NoState, errors.NoDeed) else errors.PageError
            with self.assertRaises(base):
                raise error(3)
        with self.assertRaises(ValueError):
            raise errors.PageError("x")


if __name__ == "__main__":
    unittest.main()
