"""Promise 25: the firm sharing in which each of a side has its most, all at once, and its judge."""

import copy
import fractions
import itertools
import random
import unittest

from tests.samples import (
    MOST_GAIN, SIXTY, Unruly, as_fraction, as_ratio, is_plain, most_worth, named_webs, odd_things, ring, web_of,
)
from tests.test_even import firm_sharings
from tests.test_sides import all_sides, sided_webs
from twainhoard.best import all_best
from twainhoard.errors import NoSides
from twainhoard.firm import firm
from twainhoard.most import most_right, side_most
from twainhoard.pairings import is_pairing, pairings_of, worth
from twainhoard.ranges import greatest_slack, least_slack
from twainhoard.sharings import is_firm, is_sharing

PATH = (4, ((0, 1, 5), (1, 2, 7), (2, 3, 1)))
ROUND = web_of(3, ring(3, (2,)))
BEST = ((0,), (1, 2), (3,))
SIDE = (1, 3)
SHARES = ((0, 1), (6, 1), (1, 1), (0, 1))
MOST = (BEST, SHARES, [((0,), (1,), (2, 3)), BEST])
OTHER_SIDE = (0, 2)
OTHER_MOST = (BEST, ((0, 1), (5, 1), (2, 1), (0, 1)), [BEST, ((0, 1), (2,), (3,))])


def webs_with_sides():
    told = [web for web in named_webs() if all_sides(web)] + list(sided_webs(141, 80))
    return told + [(people, ()) for people in (1, 2, 5)] + [web_of(2, [(0, 1, MOST_GAIN)])]


def some_of(sides):
    """The first, the last and some sides between."""
    return sides[:2] + sides[2:-1:max(1, len(sides) // 3)] + sides[-1:]


def is_right(web, side, told):
    """Whether all that is promised of the tuple of three holds."""
    pairing, shares, papers = told
    if not is_sharing(web, (pairing, shares)) or not is_firm(web, (pairing, shares)) or len(papers) != len(side):
        return False
    return all(
        is_pairing(web, paper) and (person,) in paper
        and worth(web, paper) == most_worth(web) - as_fraction(shares[person]) for person, paper in zip(side, papers)
    )


class ToldTest(unittest.TestCase):

    def check(self, web, side):
        told = side_most(web, side)
        self.assertIs(type(told), tuple)
        pairing, shares, papers = told
        self.assertIs(type(papers), list)
        self.assertTrue(is_plain((pairing, shares) + tuple(papers)))
        self.assertEqual(worth(web, pairing), most_worth(web))
        self.assertTrue(all(bottom == 1 for top, bottom in shares))
        self.assertTrue(is_right(web, side, told), (web, side, told))
        self.assertIs(most_right(web, side, told), True)
        return told

    def test_written_out(self):
        self.assertEqual(self.check(PATH, SIDE)[:2], MOST[:2])
        self.assertEqual(self.check(PATH, OTHER_SIDE)[:2], OTHER_MOST[:2])
        self.assertEqual(self.check((1, ()), ()), (((0,),), ((0, 1),), []))
        self.assertEqual(self.check((1, ()), (0,)), (((0,),), ((0, 1),), [((0,),)]))
        self.assertEqual(self.check((2, ((0, 1, 9),)), (0,))[1], ((9, 1), (0, 1)))
        self.assertEqual(self.check((2, ((0, 1, 9),)), (1,))[1], ((0, 1), (9, 1)))
        web = web_of(4, [(0, 2, 4), (0, 3, 7), (1, 2, 3), (1, 3, 5)])
        self.assertEqual(self.check(web, (0, 1))[1], ((5, 1), (3, 1), (0, 1), (2, 1)))
        self.assertEqual(self.check(web, (2, 3))[1], ((1, 1), (0, 1), (3, 1), (6, 1)))

    def test_each_has_its_most_or_its_least(self):
        for web in webs_with_sides():
            least = [least_slack(web, (person,))[0] for person in range(web[0])]
            greatest = [greatest_slack(web, (person,))[0] for person in range(web[0])]
            for side in some_of(all_sides(web)):
                shares = self.check(web, side)[1]
                expected = [greatest[one] if one in side else least[one] for one in range(web[0])]
                self.assertEqual(list(shares), expected, (web, side))

    def test_no_firm_sharing_passes_it(self):
        seen = 0
        for web, sharing in firm_sharings(webs_with_sides(), 142):
            for side in some_of(all_sides(web)):
                shares = side_most(web, side)[1]
                for person in range(web[0]):
                    here, there = as_fraction(shares[person]), as_fraction(sharing[1][person])
                    self.assertTrue(here >= there if person in side else here <= there)
                    seen += here != there
        self.assertGreater(seen, 200)

    def test_a_web_with_a_side_has_a_firm_sharing(self):
        for web in webs_with_sides():
            self.assertEqual(firm(web)[0], "firm")

    def test_no_sides(self):
        for ask in (side_most, lambda web, side: most_right(web, side, MOST)):
            for thing in odd_things() + [(0, 3), (2, 0), [0, 2], (0, 2, 2), (False, 2), (0,), (), Unruly(), (0, 2, 4)]:
                with self.assertRaises(NoSides):
                    ask(PATH, thing)
            for side in [row for many in range(4) for row in itertools.combinations(range(3), many)]:
                with self.assertRaises(NoSides):
                    ask(ROUND, side)

    def test_judge_refuses_whatever_is_told(self):
        for told in (MOST, (), None, Unruly()):
            self.assertRaises(NoSides, most_right, PATH, (0, 1), told)

    def test_handed_in_stays_and_told_is_own(self):
        for web in webs_with_sides()[::4]:
            for side in all_sides(web)[:2]:
                kept = copy.deepcopy((web, side))
                first = side_most(web, side)
                again = copy.deepcopy(first)
                first[2].append("spoilt")
                self.assertEqual(side_most(web, side), again)
                most_right(web, side, first)
                self.assertEqual(first[2][:-1], again[2])
                self.assertEqual((web, side), kept)


class JudgeTest(unittest.TestCase):

    def judged(self, told, expected, web=PATH, side=SIDE):
        self.assertIs(most_right(web, side, told), expected, told)

    def test_written_out(self):
        self.judged(MOST, True)
        self.judged(OTHER_MOST, True, side=OTHER_SIDE)
        self.judged(OTHER_MOST, False)
        self.judged(MOST, False, side=OTHER_SIDE)
        self.judged((((0,),), ((0, 1),), []), True, (1, ()), ())
        self.judged((((0,),), ((0, 1),), []), False, (1, ()), (0,))
        self.judged((((0,),), ((0, 1),), [((0,),)]), False, (1, ()), ())

    def test_what_else_is_right(self):
        web = web_of(4, [(0, 2, 3), (0, 3, 3), (1, 2, 3), (1, 3, 3)])
        shares = ((3, 1), (3, 1), (0, 1), (0, 1))
        for pairing in (((0, 2), (1, 3)), ((0, 3), (1, 2))):
            for one in (((0,), (1, 2), (3,)), ((0,), (1, 3), (2,))):
                for other in (((0, 2), (1,), (3,)), ((0, 3), (1,), (2,))):
                    self.judged((pairing, shares, [one, other]), True, web, (0, 1))
                    self.judged((pairing, shares, [other, one]), False, web, (0, 1))
        seen = 0
        for web in webs_with_sides():
            for side in all_sides(web)[:1]:
                told = side_most(web, side)
                for pairing in all_best(web)[:5]:
                    self.judged((pairing,) + told[1:], True, web, side)
                    seen += pairing != told[0]
        self.assertGreater(seen, 20)

    def test_a_share(self):
        hair = fractions.Fraction(1, SIXTY)
        for share in (5, fractions.Fraction(11, 2), 6 - hair, 6 + hair, 7, 4, 0, -1):
            shares = ((0, 1), as_ratio(share), as_ratio(7 - share), (0, 1))
            self.judged((BEST, shares, MOST[2]), False)
        for person in range(4):
            for change in (1, -1, hair, -hair):
                share = as_ratio(as_fraction(SHARES[person]) + change)
                self.judged((BEST, SHARES[:person] + (share,) + SHARES[person + 1:], MOST[2]), False)
        for shares in ((), SHARES[:3], SHARES + ((0, 1),), SHARES * 25):
            self.judged((BEST, shares, MOST[2]), False)

    def test_firm_but_not_the_most(self):
        """Papers of just the worth that would fit aren't there: no pairing without 1 is worth so much."""
        shares = ((0, 1), (5, 1), (2, 1), (0, 1))
        for paper in pairings_of(PATH):
            self.judged((BEST, shares, [paper, BEST]), False)

    def test_a_pairing(self):
        for pairing in pairings_of(PATH):
            self.judged((pairing, SHARES, MOST[2]), pairing == BEST)
        for pairing in ((), BEST[:2], BEST[::-1], BEST + ((3,),)):
            self.judged((pairing, SHARES, MOST[2]), False)

    def test_papers(self):
        first, second = MOST[2]
        for papers in (
            [], [first], [second], [first, first], [second, second], [second, first], [first, second, second],
            [first, first, second], [first, second] * 50, [first[::-1], second], [first, second[::-1]],
            [first[:2], second], [first + first[-1:], second], [((0, 1), (2, 3)), second], [first, ((0, 1), (2, 3))],
            [((0,), (1,), (2,), (3,)), second], [first, ((0,), (1,), (2,), (3,))], [(), ()], [first, ()],
        ):
            self.judged((BEST, SHARES, papers), False)

    def test_spoilt_by_chance(self):
        chance, seen = random.Random(143), {True: 0, False: 0}
        for web in webs_with_sides():
            some = pairings_of(web)
            for side in some_of(all_sides(web)):
                told = side_most(web, side)
                for time in range(3):
                    changed = self.spoilt(web, told, chance, some)
                    expected = is_right(web, side, changed)
                    self.judged(changed, expected, web, side)
                    seen[expected] += 1
        self.assertGreater(seen[True], 10)
        self.assertGreater(seen[False], 200)

    def spoilt(self, web, told, chance, some):
        pairing, shares, papers = told
        place = chance.randrange(4)
        if place == 0:
            return (chance.choice(some), shares, papers)
        if place == 1:
            person = chance.randrange(web[0])
            share = as_ratio(as_fraction(shares[person]) + chance.choice((1, -1, fractions.Fraction(1, 2))))
            return (pairing, shares[:person] + (share,) + shares[person + 1:], papers)
        if place == 2 and papers:
            at = chance.randrange(len(papers))
            return (pairing, shares, papers[:at] + [chance.choice(some)] + papers[at + 1:])
        return (pairing, shares, chance.sample(papers, len(papers)))

    def test_other_forms(self):
        for told in (
            (), MOST[:2], MOST + ([],), list(MOST), (BEST, SHARES, tuple(MOST[2])), (list(BEST), SHARES, MOST[2]),
            (BEST, list(SHARES), MOST[2]), (BEST, SHARES, [list(paper) for paper in MOST[2]]),
        ):
            self.judged(told, False)
        for thing in odd_things() + [Unruly(), (Unruly(),) * 3]:
            self.judged(thing, False)
            self.judged((thing, SHARES, MOST[2]), False)
            self.judged((BEST, thing, MOST[2]), False)
            self.judged((BEST, SHARES, thing), False)
            self.judged((BEST, SHARES, [thing, BEST]), False)
            self.judged((BEST, SHARES, [MOST[2][0], thing]), False)


if __name__ == "__main__":
    unittest.main()
