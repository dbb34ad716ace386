"""The refusals and how they stand to one another."""

import unittest

from twainhoard import errors

OF_A_TEXT = (
    "NoRatio", "NoWeb", "Twice", "NoPerson", "NoParty", "Alone", "Loose", "Barred", "NoSides", "NoText", "NoRow",
    "NothingDone",
)


class RefusalsTest(unittest.TestCase):

    def all_refusals(self):
        return [getattr(errors, name)("why") for name in OF_A_TEXT] + [errors.NoDeed(2)]

    def test_base_is_a_value_error(self):
        self.assertEqual(errors.TwainError.__bases__, (ValueError,))

    def test_each_stands_straight_under_twain_error(self):
        for name in OF_A_TEXT + ("NoDeed",):
            self.assertEqual(getattr(errors, name).__bases__, (errors.TwainError,), name)

    def test_each_is_itself_and_no_other(self):
        for name in OF_A_TEXT + ("NoDeed",):
            kind = getattr(errors, name)
            same = [refusal for refusal in self.all_refusals() if isinstance(refusal, kind)]
            self.assertEqual(len(same), 1, name)

    def test_each_is_caught_as_value_error_and_twain_error(self):
        for refusal in self.all_refusals():
            for kind in (errors.TwainError, ValueError):
                with self.assertRaises(kind):
                    raise refusal

    def test_made_of_a_text(self):
        for name in OF_A_TEXT:
            self.assertIsInstance(str(getattr(errors, name)("some words")), str)

    def test_no_deed_has_its_place(self):
        for at in (0, 1, 7, 99):
            self.assertEqual(errors.NoDeed(at).at, at)
        with self.assertRaises(errors.NoDeed) as caught:
            raise errors.NoDeed(3)
        self.assertEqual(caught.exception.at, 3)


if __name__ == "__main__":
    unittest.main()
