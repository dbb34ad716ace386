"""Promise 23: from any sharing at most three deeds for each two people lead to a firm one."""

import copy
import fractions
import random
import unittest

from tests.samples import (
    MOST_GAIN, SIXTY, all_ties, as_fraction, as_ratio, firm_webs, is_plain, mixed_webs, named_webs, ring, small_webs,
    some_sharings, some_webs, web_of, webs_and_sharings,
)
from tests.test_deeds import done_by_hand, fits
from tests.test_even import firm_sharings
from twainhoard.best import all_best
from twainhoard.deeds import behind
from twainhoard.errors import Barred
from twainhoard.firm import firm
from twainhoard.leading import leading
from twainhoard.pairings import pairings_of
from twainhoard.sharings import is_firm, is_sharing
from twainhoard.webs import gain_of

PATH = (4, ((0, 1, 5), (1, 2, 7), (2, 3, 1)))
NOUGHT = (0, 1)


def all_alone(web):
    return (tuple((person,) for person in range(web[0])), (NOUGHT,) * web[0])


def any_sharing(web, pairing, chance):
    """A sharing with that pairing, each pair parted by chance."""
    shares = [NOUGHT] * web[0]
    for party in pairing:
        if len(party) == 2:
            gain = gain_of(web, party)
            part = chance.choice((0, 1, fractions.Fraction(chance.randint(0, 12), 12), fractions.Fraction(1, SIXTY)))
            shares[party[0]], shares[party[1]] = as_ratio(gain * part), as_ratio(gain - gain * part)
    return (pairing, tuple(shares))


class LeadingTest(unittest.TestCase):

    def check(self, web, sharing):
        deeds = leading(web, sharing)
        self.assertIs(type(deeds), list)
        self.assertTrue(is_plain(tuple(deeds)))
        self.assertLessEqual(len(deeds), web[0] // 2 * 3, (web, sharing))
        self.assertEqual(deeds == [], is_firm(web, sharing))
        now = sharing
        for deed in deeds:
            self.assertTrue(fits(web, now[1], deed), (web, sharing, deed))
            now = done_by_hand(web, now, deed)
        self.assertTrue(is_sharing(web, now) and is_firm(web, now), (web, sharing))
        self.assertEqual(behind(web, sharing, deeds), now)
        return len(deeds)

    def test_written_out(self):
        self.assertEqual(leading((1, ()), (((0,),), (NOUGHT,))), [])
        self.assertEqual(leading((8, ()), all_alone((8, ()))), [])
        (one, other, share), = leading((2, ((0, 1, 9),)), all_alone((2, ())))
        self.assertEqual((one, other), (0, 1))
        self.assertTrue(0 <= as_fraction(share) <= 9)
        self.check(PATH, all_alone(PATH))

    def test_none_where_it_is_firm(self):
        for web, sharing in firm_sharings(named_webs() + list(mixed_webs(121, 40)), 122):
            self.assertEqual(leading(web, sharing), [])

    def test_everybody_alone(self):
        for web in firm_webs(named_webs() + some_webs() + list(mixed_webs(123, 60))):
            self.check(web, all_alone(web))

    def test_every_pairing_of_small_webs(self):
        for web in firm_webs(list(small_webs(2, 3)) + list(small_webs(3, 2)) + list(small_webs(4, 2))[::11]):
            for sharing in some_sharings(web, pairings_of(web)):
                self.check(web, sharing)

    def test_all_shares_in_halves(self):
        """Each pair parted on its own, so that rich and poor ones stand in every way."""
        web = web_of(4, [(0, 1, 3), (0, 3, 2), (1, 2, 2), (2, 3, 3)])
        for one in range(7):
            for other in range(7):
                shares = [fractions.Fraction(top, 2) for top in (one, 6 - one, other, 6 - other)]
                self.check(web, (((0, 1), (2, 3)), tuple(as_ratio(share) for share in shares)))
        for one in range(5):
            for other in range(5):
                shares = [fractions.Fraction(top, 2) for top in (one, other, 4 - other, 4 - one)]
                self.check(web, (((0, 3), (1, 2)), tuple(as_ratio(share) for share in shares)))

    def test_best_pairings_shared_wrong(self):
        chance, seen = random.Random(124), 0
        for web in firm_webs(named_webs() + list(mixed_webs(125, 80))):
            for pairing in all_best(web)[:3]:
                for time in range(3):
                    seen += self.check(web, any_sharing(web, pairing, chance)) > 0
        self.assertGreater(seen, 100)

    def test_other_pairings(self):
        chance, most = random.Random(126), 0
        for web in firm_webs(named_webs() + some_webs() + list(mixed_webs(127, 120))):
            some = pairings_of(web)
            for time in range(6):
                most = max(most, self.check(web, any_sharing(web, chance.choice(some), chance)))
        self.assertGreater(most, 4)

    def test_all_that_samples_hold(self):
        for web, sharing in webs_and_sharings()[::4]:
            if firm(web)[0] == "firm":
                self.check(web, sharing)

    def test_gains_at_the_bound(self):
        chance = random.Random(128)
        webs = [web_of(8, [tie[:2] + (MOST_GAIN,) for tie in all_ties(8)]), web_of(8, all_ties(8, MOST_GAIN - 27))]
        webs.append(web_of(8, [(one, other, MOST_GAIN - one * other) for one in range(4) for other in range(4, 8)]))
        for web in firm_webs(webs):
            for pairing in chance.sample(pairings_of(web), 25):
                self.check(web, any_sharing(web, pairing, chance))

    def test_barred(self):
        for web in [web_of(3, ring(3, (2,))), web_of(8, ring(3, (1,)) + [(4, 5, 9)]), web_of(5, ring(5, (MOST_GAIN,)))]:
            for pairing in pairings_of(web):
                for sharing in some_sharings(web, [pairing]):
                    self.assertFalse(is_firm(web, sharing))
                    self.assertRaises(Barred, leading, web, sharing)

    def test_just_the_barred_webs(self):
        for web in mixed_webs(129, 60):
            if firm(web)[0] == "barred":
                self.assertRaises(Barred, leading, web, all_alone(web))
            else:
                self.check(web, all_alone(web))

    def test_handed_in_stays_and_told_is_own(self):
        chance = random.Random(130)
        for web in firm_webs(named_webs())[::2]:
            sharing = any_sharing(web, chance.choice(pairings_of(web)), chance)
            kept = copy.deepcopy((web, sharing))
            first = leading(web, sharing)
            again = list(first)
            first.append("spoilt")
            self.assertEqual(leading(web, sharing), again)
            self.assertEqual((web, sharing), kept)


if __name__ == "__main__":
    unittest.main()
