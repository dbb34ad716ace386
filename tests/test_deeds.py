"""Promise 22: deeds, done one by one."""

import copy
import fractions
import random
import unittest

from tests.samples import (
    MOST_GAIN, SIXTY, Unruly, as_fraction, as_ratio, is_plain, odd_things, webs_and_sharings, web_of,
)
from twainhoard.deeds import behind
from twainhoard.errors import NoDeed, TwainError
from twainhoard.sharings import is_sharing, loose
from twainhoard.webs import gain_of, parties

PATH = (4, ((0, 1, 5), (1, 2, 7), (2, 3, 1)))
NOUGHT = (0, 1)
ALL_ALONE = (((0,), (1,), (2,), (3,)), (NOUGHT,) * 4)
ENDS = (((0, 1), (2, 3)), ((4, 1), (1, 1), (1, 2), (1, 2)))


def fits(web, shares, deed):
    """Whether a triple is a deed there, by fractions."""
    one, other, share = deed
    gains = {tie[:2]: tie[2] for tie in web[1]}
    if (one, other) not in gains:
        return False
    gain, share = gains[(one, other)], as_fraction(share)
    mine, yours = as_fraction(shares[one]), as_fraction(shares[other])
    return mine + yours < gain and mine <= share and yours <= gain - share


def done_by_hand(web, sharing, deed):
    """The sharing behind a deed, by the companions of all."""
    one, other, share = deed
    has = {person: as_fraction(each) for person, each in enumerate(sharing[1])}
    mate = {person: party[0] + party[-1] - person for party in sharing[0] for person in party}
    for person in (one, other):
        left = mate[person]
        if left != person:
            mate[left], has[left] = left, fractions.Fraction(0)
    mate[one], mate[other] = other, one
    has[one] = as_fraction(share)
    has[other] = gain_of(web, (one, other)) - has[one]
    pairing = {tuple(sorted({person, mate[person]})) for person in mate}
    return (tuple(sorted(pairing)), tuple(as_ratio(has[person]) for person in range(web[0])))


def some_deed(web, sharing, chance):
    """A deed of a loose party, where there is one, or None."""
    some = loose(web, sharing[1])
    if not some:
        return None
    one, other = chance.choice(some)
    low = as_fraction(sharing[1][one])
    high = gain_of(web, (one, other)) - as_fraction(sharing[1][other])
    part = chance.choice((0, 1, fractions.Fraction(1, 2), fractions.Fraction(2, 7)))
    return (one, other, as_ratio(low + (high - low) * part))


class BehindTest(unittest.TestCase):

    def test_none(self):
        for deeds in ([], ()):
            self.assertEqual(behind(PATH, ENDS, deeds), ENDS)
            self.assertEqual(behind((1, ()), (((0,),), (NOUGHT,)), deeds), (((0,),), (NOUGHT,)))

    def test_written_out(self):
        expected = (((0,), (1, 2), (3,)), (NOUGHT, (5, 1), (2, 1), NOUGHT))
        for deeds in ([(1, 2, (5, 1))], ((1, 2, (5, 1)),)):
            self.assertEqual(behind(PATH, ENDS, deeds), expected)
            self.assertEqual(behind(PATH, ALL_ALONE, deeds), expected)

    def test_left_alone_with_nought(self):
        pairing, shares = behind(PATH, ENDS, [(1, 2, (1, 1))])
        self.assertEqual(pairing, ((0,), (1, 2), (3,)))
        self.assertEqual(shares, (NOUGHT, (1, 1), (6, 1), NOUGHT))
        web = web_of(3, [(0, 1, 2), (0, 2, 9)])
        told = behind(web, (((0, 1), (2,)), ((1, 1), (1, 1), NOUGHT)), [(0, 2, (9, 1))])
        self.assertEqual(told, (((0, 2), (1,)), ((9, 1), NOUGHT, NOUGHT)))

    def test_all_others_stay(self):
        web = web_of(6, [(0, 1, 2), (2, 3, 8), (4, 5, 6)])
        sharing = (((0,), (1,), (2, 3), (4, 5)), (NOUGHT, NOUGHT, (1, 3), (23, 3), (6, 1), NOUGHT))
        told = behind(web, sharing, [(0, 1, (1, 2))])
        self.assertEqual(told, (((0, 1), (2, 3), (4, 5)), ((1, 2), (3, 2)) + sharing[1][2:]))

    def test_several_that_hang_together(self):
        deeds = [(0, 1, (5, 1)), (1, 2, (0, 1)), (0, 1, (5, 1)), (2, 3, (1, 1))]
        expected = [
            (((0, 1), (2,), (3,)), ((5, 1), NOUGHT, NOUGHT, NOUGHT)),
            (((0,), (1, 2), (3,)), (NOUGHT, NOUGHT, (7, 1), NOUGHT)),
            (((0, 1), (2,), (3,)), ((5, 1), NOUGHT, NOUGHT, NOUGHT)),
            (((0, 1), (2, 3)), ((5, 1), NOUGHT, (1, 1), NOUGHT)),
        ]
        for many, sharing in enumerate(expected):
            self.assertEqual(behind(PATH, ALL_ALONE, deeds[:many + 1]), sharing)
            self.assertEqual(behind(PATH, ALL_ALONE, tuple(deeds[:many + 1])), sharing)

    def test_neither_less_at_both_ends(self):
        for share in ((1, 1), (13, 2), (3, 1), (SIXTY + 1, SIXTY)):
            told = behind(PATH, ENDS, [(1, 2, share)])[1]
            self.assertEqual(told[1], share)
            self.assertEqual(as_fraction(told[2]), 7 - as_fraction(share))

    def test_by_hand(self):
        chance, seen = random.Random(111), 0
        for web, sharing in webs_and_sharings()[::2]:
            deeds, expected = [], sharing
            for time in range(6):
                deed = some_deed(web, expected, chance)
                if deed is None:
                    break
                deeds.append(deed)
                expected = done_by_hand(web, expected, deed)
                seen += 1
            told = behind(web, sharing, deeds)
            self.assertEqual(told, expected)
            self.assertTrue(is_sharing(web, told) and is_plain(told))
            self.assertEqual(behind(web, sharing, tuple(deeds)), expected)
        self.assertGreater(seen, 500)

    def test_a_hundred_deeds(self):
        web = web_of(3, [(0, 1, MOST_GAIN), (0, 2, MOST_GAIN)])
        deeds = [(0, 1 + at % 2, (at, 1)) for at in range(100)]
        told = behind(web, (((0,), (1,), (2,)), (NOUGHT,) * 3), deeds)
        self.assertEqual(told, (((0, 2), (1,)), ((99, 1), NOUGHT, (MOST_GAIN - 99, 1))))


class NoDeedTest(unittest.TestCase):

    def refused(self, web, sharing, deeds, at):
        for some in (list(deeds), tuple(deeds)):
            with self.assertRaises(NoDeed) as caught:
                behind(web, sharing, some)
            self.assertIs(type(caught.exception.at), int)
            self.assertEqual(caught.exception.at, at)
            self.assertIsInstance(caught.exception, TwainError)

    def test_a_party_that_is_not_loose(self):
        self.refused(PATH, ENDS, [(0, 1, (4, 1))], 0)
        self.refused(PATH, ENDS, [(2, 3, (1, 2))], 0)
        firm = (((0,), (1, 2), (3,)), (NOUGHT, (5, 1), (2, 1), NOUGHT))
        for two in ((0, 1), (1, 2), (2, 3)):
            for share in (NOUGHT, (1, 1), (5, 1), (7, 1)):
                self.refused(PATH, firm, [two + (share,)], 0)

    def test_just_its_gain_is_not_loose(self):
        web = web_of(3, [(0, 1, 4), (1, 2, 4)])
        sharing = (((0, 1), (2,)), (NOUGHT, (4, 1), NOUGHT))
        self.refused(web, sharing, [(1, 2, (4, 1))], 0)
        hair = (((0, 1), (2,)), ((1, SIXTY), (4 * SIXTY - 1, SIXTY), NOUGHT))
        self.assertEqual(behind(web, hair, [(1, 2, (4, 1))])[1], (NOUGHT, (4, 1), NOUGHT))

    def test_no_party(self):
        beyond = ((0, 4), (4, 5), (-1, 0), (-2, -1), (3, SIXTY))
        for two in ((0, 2), (0, 3), (1, 3), (1, 0), (2, 1), (0, 0), (1, 1)) + beyond:
            self.refused(PATH, ALL_ALONE, [two + (NOUGHT,)], 0)

    def test_less_than_ahead(self):
        hair = fractions.Fraction(1, SIXTY)
        for share in (0, fractions.Fraction(1, 2), 1 - hair, -1):
            self.refused(PATH, ENDS, [(1, 2, as_ratio(share))], 0)
        for share in (7, fractions.Fraction(13, 2) + hair, SIXTY, 8):
            self.refused(PATH, ENDS, [(1, 2, as_ratio(share))], 0)

    def test_below_nought_and_above_the_gain(self):
        for share in ((-1, 1), (-1, SIXTY), (8, 1), (7 * SIXTY + 1, SIXTY), (-SIXTY, 1)):
            self.refused(PATH, ALL_ALONE, [(1, 2, share)], 0)
        for share in (NOUGHT, (7, 1)):
            behind(PATH, ALL_ALONE, [(1, 2, share)])

    def test_number_of_the_first(self):
        good = [(0, 1, (5, 1)), (1, 2, (0, 1)), (0, 1, (5, 1))]
        for at in range(4):
            for wrong in ((0, 2, NOUGHT), (1, 0, (5, 1)), (0, 0, NOUGHT), (2, 3, (2, 1)), (2, 3, (-1, 1))):
                self.refused(PATH, ALL_ALONE, good[:at] + [wrong] + good[at:], at)
                self.refused(PATH, ALL_ALONE, good[:at] + [wrong, wrong, (9, 9, NOUGHT)], at)

    def test_a_deed_done_is_none_again(self):
        self.refused(PATH, ALL_ALONE, [(1, 2, (5, 1)), (1, 2, (5, 1))], 1)
        self.refused(PATH, ALL_ALONE, [(1, 2, (5, 1)), (1, 2, (6, 1))], 1)
        self.refused(PATH, ALL_ALONE, [(1, 2, (5, 1)), (0, 1, NOUGHT)], 1)

    def test_just_what_fits(self):
        chance, seen = random.Random(112), set()
        for web, sharing in webs_and_sharings()[::5]:
            for time in range(6):
                one, other = chance.randrange(web[0]), chance.randrange(web[0])
                tie = chance.choice([party for party in parties(web) if len(party) == 2] or [(one, other)])
                one, other = chance.choice(((one, other), tie, tie))
                share = as_fraction(sharing[1][one]) + chance.choice((0, 1, -1, 2, fractions.Fraction(1, 2)))
                deed = (one, other, as_ratio(share))
                fit = fits(web, sharing[1], deed)
                if fit:
                    self.assertEqual(behind(web, sharing, [deed]), done_by_hand(web, sharing, deed))
                else:
                    self.refused(web, sharing, [deed], 0)
                seen.add(fit)
        self.assertEqual(seen, {True, False})

    def test_other_kinds(self):
        for thing in odd_things() + [Unruly(), (0, 1), (True, 2, (5, 1)), (1, 2, 5), (1, 2, (10, 2)), (1, 2, [5, 1])]:
            self.refused(PATH, ALL_ALONE, [thing], 0)


class OwnTest(unittest.TestCase):

    def test_handed_in_stays(self):
        deeds = [(0, 1, (5, 1)), (1, 2, (0, 1))]
        kept = copy.deepcopy((PATH, ALL_ALONE, deeds))
        first = behind(PATH, ALL_ALONE, deeds)
        self.assertEqual((PATH, ALL_ALONE, deeds), kept)
        deeds.append((0, 1, (5, 1)))
        self.assertEqual(behind(PATH, ALL_ALONE, deeds[:2]), first)
        self.refused_changes_nothing()

    def refused_changes_nothing(self):
        deeds = [(0, 1, (5, 1)), (0, 2, NOUGHT)]
        kept = copy.deepcopy(deeds)
        self.assertRaises(NoDeed, behind, PATH, ALL_ALONE, deeds)
        self.assertEqual(deeds, kept)
        self.assertEqual(behind(PATH, ALL_ALONE, []), ALL_ALONE)


if __name__ == "__main__":
    unittest.main()
