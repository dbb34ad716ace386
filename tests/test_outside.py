"""Promise 10: companions, and what a person could have outside."""

import unittest

from tests.samples import SIXTY, all_ties, as_fraction, as_ratio, odd_things, webs_and_sharings
from twainhoard.errors import NoPerson
from twainhoard.outside import companion, outside

WEB = (4, ((0, 1, 5), (0, 2, 3), (1, 2, 7), (2, 3, 1)))
SHARING = (((0, 1), (2,), (3,)), ((3, 2), (7, 2), (0, 1), (0, 1)))


def outside_by_fractions(web, sharing, person):
    pairing, shares = sharing
    could = [as_fraction((0, 1))]
    for one, other, gain in web[1]:
        if (one, other) not in pairing:
            if one == person:
                could.append(gain - as_fraction(shares[other]))
            if other == person:
                could.append(gain - as_fraction(shares[one]))
    return max(could)


class CompanionTest(unittest.TestCase):

    def test_written_out(self):
        self.assertEqual(companion(SHARING, 0), 1)
        self.assertEqual(companion(SHARING, 1), 0)
        self.assertIsNone(companion(SHARING, 2))
        self.assertIsNone(companion(SHARING, 3))
        self.assertIsNone(companion((((0,),), ((0, 1),)), 0))

    def test_some_of_every_web(self):
        for web, sharing in webs_and_sharings():
            for person in range(web[0]):
                pairs = [party for party in sharing[0] if person in party and len(party) == 2]
                others = [other for pair in pairs for other in pair if other != person]
                self.assertEqual(companion(sharing, person), others[0] if others else None)

    def test_no_person(self):
        one = (((0,),), ((0, 1),))
        for thing in [-1, True, False, "0", (0,), [0], None] + odd_things():
            for sharing in (SHARING, one):
                with self.assertRaises(NoPerson):
                    companion(sharing, thing)
        for sharing, many in ((SHARING, 4), (one, 1)):
            with self.assertRaises(NoPerson):
                companion(sharing, many)


class OutsideTest(unittest.TestCase):

    def test_written_out(self):
        self.assertEqual(outside(WEB, SHARING, 0), (3, 1))
        self.assertEqual(outside(WEB, SHARING, 1), (7, 1))
        self.assertEqual(outside(WEB, SHARING, 2), (7, 2))
        self.assertEqual(outside(WEB, SHARING, 3), (1, 1))

    def test_own_pair_does_not_count(self):
        web = (2, ((0, 1, 9),))
        for shares in (((9, 1), (0, 1)), ((0, 1), (9, 1)), ((9, 2), (9, 2))):
            for person in (0, 1):
                self.assertEqual(outside(web, (((0, 1),), shares), person), (0, 1))

    def test_who_is_alone_has_all_ties_outside(self):
        web = (2, ((0, 1, 9),))
        sharing = (((0,), (1,)), ((0, 1), (0, 1)))
        self.assertEqual(outside(web, sharing, 0), (9, 1))
        self.assertEqual(outside(web, sharing, 1), (9, 1))

    def test_never_below_nought(self):
        web = (3, ((0, 1, 9), (1, 2, 2)))
        sharing = (((0, 1), (2,)), ((1, 1), (8, 1), (0, 1)))
        self.assertEqual(outside(web, sharing, 2), (0, 1))
        self.assertEqual(outside(web, sharing, 1), (2, 1))
        self.assertEqual(outside(web, sharing, 0), (0, 1))

    def test_without_ties(self):
        for people in range(1, 9):
            alone = (tuple((person,) for person in range(people)), ((0, 1),) * people)
            for person in range(people):
                self.assertEqual(outside((people, ()), alone, person), (0, 1))

    def test_sixty_figures(self):
        web = (3, ((0, 1, 1), (1, 2, 1)))
        sharing = (((0, 1), (2,)), ((1, SIXTY), (SIXTY - 1, SIXTY), (0, 1)))
        self.assertEqual(outside(web, sharing, 2), (1, SIXTY))

    def test_as_fractions_have_it(self):
        for web, sharing in webs_and_sharings():
            for person in range(web[0]):
                self.assertEqual(outside(web, sharing, person), as_ratio(outside_by_fractions(web, sharing, person)))

    def test_no_person(self):
        alone = (tuple((person,) for person in range(8)), ((0, 1),) * 8)
        full = (8, tuple(all_ties(8)))
        for thing in [8, -1, True, False, "0", (0,), [0], None] + odd_things():
            with self.assertRaises(NoPerson):
                outside(full, alone, thing)
            with self.assertRaises(NoPerson):
                outside(WEB, SHARING, thing)
        with self.assertRaises(NoPerson):
            outside(WEB, SHARING, 4)


if __name__ == "__main__":
    unittest.main()
