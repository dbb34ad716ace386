"""Promise 12: doubles, covers, and a cover and a double that come to the same."""

import copy
import fractions
import itertools
import unittest

from tests.samples import (
    MOST_GAIN, SIXTY, Unruly, all_ties, as_fraction, as_ratio, half_covers, is_plain, mixed_webs, named_webs,
    odd_things, ring, small_webs, some_webs, web_of,
)
from twainhoard.covers import cover, is_cover, is_double
from twainhoard.pairings import pairings_of, worth
from twainhoard.webs import parties

WEB = (4, ((0, 1, 5), (0, 2, 3), (1, 2, 7), (2, 3, 1)))
ROUND = web_of(3, ring(3, (2,)))
NOUGHT = (0, 1)


def counted_double(web, some):
    """Whether sorted parties hold each person twice, counted person by person."""
    counts = [sum(party.count(person) for party in some) for person in range(web[0])]
    return counts == [2] * web[0] and list(some) == sorted(some)


class DoubleTest(unittest.TestCase):

    def test_written_out(self):
        self.assertIs(is_double(WEB, ((0, 1), (0, 1), (2, 3), (2, 3))), True)
        self.assertIs(is_double(WEB, ((0, 1), (0, 2), (1, 2), (3,), (3,))), True)
        self.assertIs(is_double(WEB, ((0,), (0, 1), (1, 2), (2, 3), (3,))), True)
        self.assertIs(is_double(WEB, ((0,), (0,), (1,), (1,), (2,), (2,), (3,), (3,))), True)
        self.assertIs(is_double(WEB, ((0,), (0, 1), (1,), (2,), (2, 3), (3,))), True)
        self.assertIs(is_double((1, ()), ((0,), (0,))), True)

    def test_unsorted(self):
        for some in (((0, 1), (0, 1), (2, 3), (2, 3)), ((0,), (0, 1), (1,), (2,), (2, 3), (3,))):
            for order in set(itertools.permutations(some)):
                self.assertIs(is_double(WEB, order), list(order) == sorted(order))

    def test_once_and_three_times(self):
        self.assertIs(is_double(WEB, ((0, 1), (2, 3))), False)
        self.assertIs(is_double(WEB, ((0, 1), (0, 1), (2, 3))), False)
        self.assertIs(is_double(WEB, ((0, 1), (0, 1), (0, 2), (2, 3), (3,))), False)
        self.assertIs(is_double(WEB, ((0,), (0, 1), (0, 1), (2, 3), (2, 3))), False)
        self.assertIs(is_double(WEB, ((0, 1), (0, 1), (1,), (2, 3), (2, 3))), False)
        self.assertIs(is_double(WEB, ((0,), (0, 1), (1, 2), (2, 3))), False)
        self.assertIs(is_double((1, ()), ((0,),)), False)
        self.assertIs(is_double((1, ()), ((0,), (0,), (0,))), False)
        self.assertIs(is_double((1, ()), ()), False)

    def test_a_party_of_no_tie(self):
        self.assertIs(is_double(WEB, ((0, 1), (0, 1), (2,), (2,), (3,), (3,))), True)
        self.assertIs(is_double(WEB, ((0,), (0,), (1, 3), (1, 3), (2,), (2,))), False)
        self.assertIs(is_double(WEB, ((0, 3), (0, 3), (1, 2), (1, 2))), False)
        self.assertIs(is_double(WEB, ((0, 1), (0, 1), (3, 2), (3, 2))), False)
        self.assertIs(is_double((2, ()), ((0, 1), (0, 1))), False)
        self.assertIs(is_double(WEB, ((0, 1), (0, 1), (2, 2), (3,), (3,))), False)
        self.assertIs(is_double(WEB, ((), (0, 1), (0, 1), (2, 3), (2, 3))), False)

    def test_beyond_the_people(self):
        self.assertIs(is_double(WEB, ((0, 1), (0, 1), (2, 3), (2, 3), (4,), (4,))), False)
        self.assertIs(is_double(WEB, ((-1,), (-1,), (0, 1), (0, 1), (2, 3), (2, 3))), False)
        self.assertIs(is_double(WEB, ((0,), (0,)) * 50), False)

    def test_other_kinds(self):
        right = ((0, 1), (0, 1), (2, 3), (2, 3))
        wrong = [
            list(right), (list(right[0]),) + right[1:], ([0, 1], [0, 1], [2, 3], [2, 3]), ((0, True),) * 2 + right[2:],
            ((False, 1),) * 2 + right[2:], right + (None,), right + (Unruly(),), (Unruly(),) + right, (right,),
            right[:3], ((0, 1), (0, 1), "23", "23"), (right, right), {(0, 1): 2, (2, 3): 2},
        ]
        for thing in wrong + odd_things():
            self.assertIs(is_double(WEB, thing), False)
            self.assertIs(is_double((1, ()), thing), False)
        self.assertIs(is_double((2, ()), ((False,), (0,), (1,), (1,))), False)
        self.assertIs(is_double((2, ()), ((0,), (0,), (True,), (True,))), False)

    def test_each_pairing_twice_is_one(self):
        for web in some_webs():
            for pairing in pairings_of(web)[::17]:
                self.assertIs(is_double(web, tuple(sorted(pairing * 2))), True)
                self.assertIs(is_double(web, pairing), False)

    def test_as_counting_has_it(self):
        seen = set()
        for web in (WEB, ROUND, (2, ((0, 1, 9),)), (3, ((0, 2, 1),))):
            for many in range(1, 7):
                for some in itertools.combinations_with_replacement(parties(web), many):
                    expected = counted_double(web, some)
                    self.assertIs(is_double(web, some), expected)
                    seen.add(expected)
        self.assertEqual(seen, {True, False})


class IsCoverTest(unittest.TestCase):

    def test_written_out(self):
        self.assertIs(is_cover(ROUND, ((1, 1), (1, 1), (1, 1))), True)
        self.assertIs(is_cover(ROUND, ((2, 1), (2, 1), (0, 1))), True)
        self.assertIs(is_cover(ROUND, ((5, 1), (2, 1), (0, 1))), True)
        self.assertIs(is_cover(ROUND, ((1, 1), (1, 1), (0, 1))), False)
        self.assertIs(is_cover(ROUND, ((1, 1), (1, 1), (SIXTY - 1, SIXTY))), False)
        self.assertIs(is_cover((1, ()), (NOUGHT,)), True)
        self.assertIs(is_cover((1, ()), ((5, 3),)), True)

    def test_not_as_many_as_people(self):
        for people in range(1, 9):
            for many in range(0, 101 if people == 8 else 11):
                self.assertIs(is_cover((people, ()), ((1, 1),) * many), many == people)
        self.assertIs(is_cover(ROUND, ((1, 1),) * 2), False)
        self.assertIs(is_cover(ROUND, ((1, 1),) * 4), False)

    def test_below_nought(self):
        self.assertIs(is_cover((3, ()), (NOUGHT, NOUGHT, (-1, 1))), False)
        self.assertIs(is_cover((3, ()), (NOUGHT, (-1, SIXTY), NOUGHT)), False)
        self.assertIs(is_cover(ROUND, ((3, 1), (3, 1), (-1, 1))), False)
        self.assertIs(is_cover(ROUND, ((-3, 1), (9, 1), (9, 1))), False)

    def test_each_tie_counts(self):
        full = (8, tuple(tie[:2] + (2,) for tie in all_ties(8)))
        self.assertIs(is_cover(full, ((1, 1),) * 8), True)
        for at in range(28):
            ties = tuple(tie if place != at else tie[:2] + (3,) for place, tie in enumerate(full[1]))
            self.assertIs(is_cover((8, ties), ((1, 1),) * 8), False)

    def test_as_fractions_have_it(self):
        halves = [as_ratio(fractions.Fraction(top, 2)) for top in range(-1, 5)]
        for web in itertools.islice(small_webs(3, 2), 0, None, 2):
            covers = set(half_covers(web))
            most = max([0] + [tie[2] for tie in web[1]])
            for shares in itertools.product(halves, repeat=3):
                numbers = tuple(as_fraction(share) for share in shares)
                if max(numbers) <= most:
                    self.assertIs(is_cover(web, shares), numbers in covers)


class CoverTest(unittest.TestCase):

    def check(self, web):
        told = cover(web)
        self.assertIs(type(told), tuple)
        shares, double = told
        self.assertEqual(len(shares), web[0])
        self.assertLessEqual({bottom for top, bottom in shares}, {1, 2}, web)
        self.assertTrue(all(fractions.Fraction(*share) >= 0 for share in shares), web)
        for one, other, gain in web[1]:
            self.assertGreaterEqual(as_fraction(shares[one]) + as_fraction(shares[other]), gain, web)
        self.assertTrue(counted_double(web, double), web)
        self.assertTrue(set(double) <= set(parties(web)), web)
        self.assertEqual(2 * sum(as_fraction(share) for share in shares), worth(web, double), web)
        self.assertIs(is_cover(web, shares), True)
        self.assertIs(is_double(web, double), True)
        self.assertTrue(is_plain(told))

    def test_written_out(self):
        self.assertEqual(cover((1, ())), ((NOUGHT,), ((0,), (0,))))
        self.assertEqual(cover(ROUND), (((1, 1),) * 3, ((0, 1), (0, 2), (1, 2))))
        self.assertEqual(cover(web_of(3, ring(3, (1,))))[0], ((1, 2),) * 3)
        self.assertEqual(cover((2, ((0, 1, 9),)))[1], ((0, 1), (0, 1)))

    def test_rings_and_other_shapes(self):
        for web in named_webs():
            self.check(web)

    def test_webs_of_every_size(self):
        for web in some_webs():
            self.check(web)
        for web in mixed_webs(31, 400):
            self.check(web)

    def test_gains_at_the_bound(self):
        for people in range(1, 9):
            self.check(web_of(people, [tie[:2] + (MOST_GAIN,) for tie in all_ties(people)]))
            self.check(web_of(people, all_ties(people, MOST_GAIN - 27)))

    def test_no_cover_has_less(self):
        for people, most in ((2, 3), (3, 3)):
            for web in small_webs(people, most):
                self.check(web)
                least = min(sum(shares) for shares in half_covers(web))
                self.assertEqual(sum(as_fraction(share) for share in cover(web)[0]), least)

    def test_no_double_is_worth_more(self):
        for web in itertools.islice(small_webs(4, 2), 0, None, 9):
            self.check(web)
            some = itertools.chain(*(itertools.combinations_with_replacement(parties(web), many) for many in (4, 5)))
            for double in some:
                if counted_double(web, double):
                    self.assertLessEqual(worth(web, double), worth(web, cover(web)[1]))

    def test_handed_in_stays(self):
        for web in named_webs():
            kept = copy.deepcopy(web)
            self.assertEqual(cover(web), cover(web))
            self.assertEqual(web, kept)


if __name__ == "__main__":
    unittest.main()
