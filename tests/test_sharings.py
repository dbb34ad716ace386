"""Promise 9: shares, sharings, slack, loose parties, firm sharings."""

import copy
import unittest

from tests.samples import (
    SIXTY, SameAsAll, Unruly, all_ties, as_fraction, as_ratio, odd_things, some_sharings, webs_and_sharings,
)
from twainhoard.errors import NoParty
from twainhoard.pairings import pairings_of
from twainhoard.sharings import is_firm, is_sharing, loose, slack
from twainhoard.webs import parties

WEB = (4, ((0, 1, 5), (0, 2, 3), (1, 2, 7), (2, 3, 1)))
PAIRING = ((0, 1), (2, 3))
SHARES = ((3, 2), (7, 2), (1, 3), (2, 3))
SHARING = (PAIRING, SHARES)


def slack_by_fractions(web, shares, party):
    gains = {tie[:2]: tie[2] for tie in web[1]}
    return sum(as_fraction(shares[person]) for person in party) - gains.get(party, 0)


class IsSharingTest(unittest.TestCase):

    def test_sharings(self):
        self.assertIs(is_sharing(WEB, SHARING), True)
        self.assertIs(is_sharing(WEB, (PAIRING, ((0, 1), (5, 1), (1, 1), (0, 1)))), True)
        alone = ((0,), (1,), (2,), (3,))
        self.assertIs(is_sharing(WEB, (alone, ((0, 1),) * 4)), True)
        self.assertIs(is_sharing((1, ()), (((0,),), ((0, 1),))), True)

    def test_some_of_every_web(self):
        for web, sharing in webs_and_sharings():
            self.assertIs(is_sharing(web, sharing), True)

    def test_sixty_figures(self):
        web = (2, ((0, 1, 1),))
        small = (1, SIXTY)
        self.assertIs(is_sharing(web, (((0, 1),), (small, (SIXTY - 1, SIXTY)))), True)
        self.assertIs(is_sharing(web, (((0, 1),), (small, (SIXTY - 2, SIXTY)))), False)
        self.assertIs(is_sharing(web, (((0, 1),), (small, (1, 1)))), False)

    def test_a_share_more_or_less(self):
        self.assertIs(is_sharing(WEB, (PAIRING, SHARES[:3])), False)
        self.assertIs(is_sharing(WEB, (PAIRING, SHARES + ((0, 1),))), False)
        self.assertIs(is_sharing(WEB, (PAIRING, ())), False)
        self.assertIs(is_sharing((1, ()), (((0,),), ())), False)
        self.assertIs(is_sharing((1, ()), (((0,),), ((0, 1), (0, 1)))), False)

    def test_below_nought(self):
        self.assertIs(is_sharing(WEB, (PAIRING, ((-1, 1), (6, 1), (1, 3), (2, 3)))), False)
        self.assertIs(is_sharing(WEB, (PAIRING, ((3, 2), (7, 2), (4, 3), (-1, 3)))), False)

    def test_not_in_lowest_terms(self):
        self.assertIs(is_sharing(WEB, (PAIRING, ((6, 4), (7, 2), (1, 3), (2, 3)))), False)
        self.assertIs(is_sharing(WEB, (PAIRING, ((0, 2), (5, 1), (1, 3), (2, 3)))), False)
        self.assertIs(is_sharing(WEB, (PAIRING, ((-3, -2), (7, 2), (1, 3), (2, 3)))), False)
        self.assertIs(is_sharing((1, ()), (((0,),), ((0, 2),))), False)

    def test_parted_otherwise(self):
        for shares in (
            ((3, 2), (3, 1), (1, 3), (2, 3)), ((3, 2), (9, 2), (1, 3), (2, 3)), ((3, 2), (7, 2), (1, 3), (1, 3)),
            ((7, 2), (1, 3), (3, 2), (2, 3)), ((0, 1),) * 4,
        ):
            self.assertIs(is_sharing(WEB, (PAIRING, shares)), False)

    def test_who_is_alone_has_nought(self):
        pairing = ((0, 1), (2,), (3,))
        self.assertIs(is_sharing(WEB, (pairing, ((2, 1), (3, 1), (0, 1), (0, 1)))), True)
        self.assertIs(is_sharing(WEB, (pairing, ((2, 1), (3, 1), (1, 9), (0, 1)))), False)
        self.assertIs(is_sharing(WEB, (pairing, ((2, 1), (3, 1), (0, 1), (1, 1)))), False)

    def test_no_pairing(self):
        for pairing in (
            (), ((0, 1),), ((2, 3), (0, 1)), ((1, 0), (2, 3)), ((0, 1), (2,)), [(0, 1), (2, 3)], ([0, 1], (2, 3)),
            ((0, 3), (1, 2)), ((False, True), (2, 3)), ((0, 1), (2, 3), (3,)), None,
        ):
            self.assertIs(is_sharing(WEB, (pairing, SHARES)), False)

    def test_other_forms(self):
        wrong = [
            [PAIRING, SHARES], (list(PAIRING), SHARES), (PAIRING, list(SHARES)), (SHARES, PAIRING), PAIRING, SHARES,
            (PAIRING,), (PAIRING, SHARES, ()), (PAIRING, SHARES, SHARES), (SHARING,), {PAIRING: SHARES}, None,
            (PAIRING, ([3, 2], (7, 2), (1, 3), (2, 3))), (PAIRING, (1, 4, 0, 1)),
            (PAIRING, ("3/2", "7/2", "1/3", "2/3")),
            (PAIRING, ((True, 1), (4, 1), (1, 3), (2, 3))), (PAIRING, ((1, True), (4, 1), (1, 3), (2, 3))),
            (PAIRING, ((3, 2), (7, 2), (False, 1), (1, 1))), (PAIRING, ((3, 2), (7, 2), None, (2, 3))),
            (PAIRING, (SameAsAll(), (7, 2), (1, 3), (2, 3))), (PAIRING, ((3, 2), Unruly(), (1, 3), (2, 3))),
            (PAIRING, ((3, 2), (7, Unruly()), (1, 3), (2, 3))), (Unruly(), SHARES), (PAIRING, Unruly()),
        ]
        for thing in wrong:
            self.assertIs(is_sharing(WEB, thing), False)

    def test_things_of_every_kind(self):
        for thing in odd_things():
            for web in (WEB, (1, ())):
                self.assertIs(is_sharing(web, thing), False)
            self.assertIs(is_sharing(WEB, (PAIRING, thing)), False)
            self.assertIs(is_sharing(WEB, (thing, SHARES)), False)
            self.assertIs(is_sharing((1, ()), (((0,),), (thing,))), False)

    def test_handed_in_stays(self):
        thing = [list(PAIRING), list(SHARES)]
        kept = copy.deepcopy(thing)
        is_sharing(WEB, thing)
        is_sharing(WEB, tuple(thing))
        self.assertEqual(thing, kept)


class SlackTest(unittest.TestCase):

    def test_written_out(self):
        self.assertEqual(slack(WEB, SHARES, (0,)), (3, 2))
        self.assertEqual(slack(WEB, SHARES, (3,)), (2, 3))
        self.assertEqual(slack(WEB, SHARES, (0, 1)), (0, 1))
        self.assertEqual(slack(WEB, SHARES, (0, 2)), (-7, 6))
        self.assertEqual(slack(WEB, SHARES, (1, 2)), (-19, 6))
        self.assertEqual(slack(WEB, ((9, 1),) * 4, (0, 1)), (13, 1))

    def test_as_fractions_have_it(self):
        for web, (pairing, shares) in webs_and_sharings():
            for party in parties(web):
                told = slack(web, shares, party)
                self.assertEqual(told, as_ratio(slack_by_fractions(web, shares, party)))

    def test_sixty_figures(self):
        web = (2, ((0, 1, 10 ** 12),))
        shares = ((1, SIXTY), (SIXTY - 1, SIXTY))
        self.assertEqual(slack(web, shares, (0, 1)), (1 - 10 ** 12, 1))
        self.assertEqual(slack(web, shares, (1,)), (SIXTY - 1, SIXTY))
        self.assertEqual(slack(web, ((SIXTY, 1), (1, SIXTY)), (0, 1)), ((SIXTY - 10 ** 12) * SIXTY + 1, SIXTY))

    def test_no_party(self):
        wrong = [(0, 3), (1, 0), (4,), (-1,), (0, 1, 2), (), [0], [0, 1], 0, (True,), (False, True), (0, True), "0-1"]
        for thing in wrong + odd_things():
            with self.assertRaises(NoParty):
                slack(WEB, SHARES, thing)


class LooseTest(unittest.TestCase):

    def test_written_out(self):
        self.assertEqual(loose(WEB, SHARES), [(0, 2), (1, 2)])
        self.assertEqual(loose(WEB, ((0, 1),) * 4), [(0, 1), (0, 2), (1, 2), (2, 3)])
        self.assertEqual(loose(WEB, ((1, 2), (9, 2), (5, 2), (0, 1))), [])
        self.assertEqual(loose((1, ()), ((0, 1),)), [])

    def test_just_the_gain_is_not_loose(self):
        web = (2, ((0, 1, 5),))
        self.assertEqual(loose(web, ((1, 3), (14, 3))), [])
        self.assertEqual(loose(web, ((1, 3), (13, 3))), [(0, 1)])

    def test_by_a_hair(self):
        web = (2, ((0, 1, 1),))
        self.assertEqual(loose(web, ((1, SIXTY), (SIXTY - 2, SIXTY))), [(0, 1)])
        self.assertEqual(loose(web, ((1, SIXTY), (SIXTY - 1, SIXTY))), [])

    def test_rising_and_all(self):
        for web, (pairing, shares) in webs_and_sharings():
            expected = [party for party in parties(web) if slack_by_fractions(web, shares, party) < 0]
            self.assertEqual(loose(web, shares), sorted(expected))

    def test_the_told_list_is_the_askers_own(self):
        told = loose(WEB, SHARES)
        told.clear()
        self.assertEqual(loose(WEB, SHARES), [(0, 2), (1, 2)])


class IsFirmTest(unittest.TestCase):

    def test_written_out(self):
        self.assertIs(is_firm(WEB, SHARING), False)
        firm = (((0,), (1, 2), (3,)), ((0, 1), (5, 1), (2, 1), (0, 1)))
        self.assertTrue(is_sharing(WEB, firm))
        self.assertIs(is_firm(WEB, firm), False)
        web = (4, WEB[1][:1] + WEB[1][2:])
        self.assertIs(is_firm(web, firm), True)

    def test_a_round_of_three_has_none(self):
        web = (3, ((0, 1, 2), (0, 2, 2), (1, 2, 2)))
        for sharing in some_sharings(web, pairings_of(web)):
            self.assertIs(is_firm(web, sharing), False)

    def test_without_ties(self):
        for people in range(1, 9):
            alone = (tuple((person,) for person in range(people)), ((0, 1),) * people)
            self.assertIs(is_firm((people, ()), alone), True)
            self.assertIs(is_firm((people, tuple(all_ties(people))), alone), people == 1)

    def test_some_of_every_web(self):
        seen = set()
        for web, sharing in webs_and_sharings():
            expected = all(slack_by_fractions(web, sharing[1], party) >= 0 for party in parties(web))
            self.assertIs(is_firm(web, sharing), expected)
            seen.add(expected)
        self.assertEqual(seen, {True, False})

    def test_handed_in_stays(self):
        self.assertIs(is_firm(WEB, SHARING), is_firm(WEB, SHARING))
        self.assertEqual(SHARING, (((0, 1), (2, 3)), ((3, 2), (7, 2), (1, 3), (2, 3))))


if __name__ == "__main__":
    unittest.main()
