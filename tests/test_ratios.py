"""Promise 5: ratios."""

import fractions
import itertools
import math
import unittest

from tests.samples import SIXTY, SameAsAll, Unruly, odd_things
from twainhoard.errors import NoRatio
from twainhoard.ratios import is_ratio, less, minus, over, plus, ratio, times, total

TOPS = (0, 1, -1, 2, -2, 3, 6, -6, 35, -36, 10 ** 12, SIXTY, -SIXTY, 6 * 10 ** 59, 7 ** 70)
BOTTOMS = (1, -1, 2, -2, 3, 4, -6, 12, 35, 10 ** 12, SIXTY, -SIXTY, 4 * 10 ** 59, 7 ** 70)


def as_pair(fraction):
    return (fraction.numerator, fraction.denominator)


def some_ratios():
    return sorted({as_pair(fractions.Fraction(top, bottom)) for top in TOPS for bottom in BOTTOMS})


class MadeRatioTest(unittest.TestCase):

    def test_written_out(self):
        self.assertEqual(ratio(6, 4), (3, 2))
        self.assertEqual(ratio(-6, 4), (-3, 2))
        self.assertEqual(ratio(6, -4), (-3, 2))
        self.assertEqual(ratio(-6, -4), (3, 2))
        self.assertEqual(ratio(5, 1), (5, 1))
        self.assertEqual(ratio(7, 7), (1, 1))

    def test_nought_is_one_thing(self):
        for bottom in BOTTOMS:
            self.assertEqual(ratio(0, bottom), (0, 1))

    def test_lowest_terms(self):
        for top, bottom in itertools.product(TOPS, BOTTOMS):
            told = ratio(top, bottom)
            self.assertIs(type(told), tuple)
            self.assertEqual(told, as_pair(fractions.Fraction(top, bottom)))
            self.assertGreaterEqual(told[1], 1)
            self.assertEqual(math.gcd(*told), 1)

    def test_sixty_figures(self):
        self.assertEqual(ratio(SIXTY, SIXTY), (1, 1))
        self.assertEqual(ratio(SIXTY, -3), (-(SIXTY // 3), 1))
        self.assertEqual(ratio(SIXTY - 1, SIXTY), (SIXTY - 1, SIXTY))

    def test_bottom_of_nought_is_refused(self):
        for top in TOPS:
            with self.assertRaises(NoRatio):
                ratio(top, 0)


class SumsTest(unittest.TestCase):

    def test_written_out(self):
        self.assertEqual(plus((1, 2), (1, 3)), (5, 6))
        self.assertEqual(plus((1, 6), (1, 3)), (1, 2))
        self.assertEqual(minus((1, 2), (2, 3)), (-1, 6))
        self.assertEqual(minus((1, 2), (1, 2)), (0, 1))
        self.assertEqual(times((2, 3), (-3, 4)), (-1, 2))
        self.assertEqual(over((2, 3), (-4, 3)), (-1, 2))
        self.assertEqual(over((0, 1), (-4, 3)), (0, 1))

    def test_as_fractions_have_it(self):
        for one, other in itertools.product(some_ratios()[::3], repeat=2):
            left, right = fractions.Fraction(*one), fractions.Fraction(*other)
            self.assertEqual(plus(one, other), as_pair(left + right))
            self.assertEqual(minus(one, other), as_pair(left - right))
            self.assertEqual(times(one, other), as_pair(left * right))
            self.assertIs(less(one, other), left < right)
            if right:
                self.assertEqual(over(one, other), as_pair(left / right))

    def test_over_nought_is_refused(self):
        for one in some_ratios():
            with self.assertRaises(NoRatio):
                over(one, (0, 1))

    def test_less(self):
        self.assertIs(less((1, 3), (1, 2)), True)
        self.assertIs(less((1, 2), (1, 3)), False)
        self.assertIs(less((1, 2), (1, 2)), False)
        self.assertIs(less((-1, 2), (-1, 3)), True)
        self.assertIs(less((-1, 2), (0, 1)), True)
        self.assertIs(less((SIXTY - 1, SIXTY), (1, 1)), True)

    def test_total(self):
        self.assertEqual(total([]), (0, 1))
        self.assertEqual(total(((1, 2), (1, 3), (1, 6), (-2, 1))), (-1, 1))


class IsRatioTest(unittest.TestCase):

    def test_ratios(self):
        for thing in some_ratios() + [(0, 1), (1, 1), (-1, 2), (SIXTY, SIXTY - 1), (10 ** 99, 10 ** 99 + 1)]:
            self.assertIs(is_ratio(thing), True, thing)

    def test_numbers_that_are_none(self):
        wrong = [
            (2, 4), (0, 2), (0, SIXTY), (-3, 3), (SIXTY, SIXTY), (6 * 10 ** 59, 4 * 10 ** 59),
            (1, 0), (0, 0), (1, -1), (-1, -1), (0, -1), (1, -2), (3, -SIXTY),
        ]
        for thing in wrong:
            self.assertIs(is_ratio(thing), False, thing)

    def test_other_kinds(self):
        wrong = [
            (True, 1), (False, 1), (1, True), (0, True), (True, True), ("1", 2), (1, "2"), ("1", "2"), "12", "1/2",
            [1, 2], [[1, 2]], ((1, 2),), (1,), (), (1, 2, 3), (1, 2, 1), (None, 1), (1, None), ((1,), 2), (1, (2,)),
            1, 0, {1: 2}, {1, 2}, b"12", (b"1", 2), range(1, 3), fractions.Fraction(1, 2), (fractions.Fraction(1), 2),
            (1, fractions.Fraction(2)), (1, complex(2, 0)), (SameAsAll(), 1), (1, SameAsAll()),
            (Unruly(), 1), (1, Unruly()),
        ]
        for thing in wrong:
            self.assertIs(is_ratio(thing), False)

    def test_things_of_every_kind(self):
        for thing in odd_things():
            self.assertIs(is_ratio(thing), False)

    def test_handed_in_stays(self):
        thing = [1, 2]
        is_ratio(thing)
        self.assertEqual(thing, [1, 2])
        one, other = (1, 2), (1, 3)
        for sums in (plus, minus, times, over, less):
            self.assertEqual(sums(one, other), sums(one, other))
        self.assertEqual((one, other), ((1, 2), (1, 3)))


if __name__ == "__main__":
    unittest.main()
