"""Promises 19, 20 and 21: rows of slacks, the evenest sharing with its papers and its judge, and its levels."""

import copy
import fractions
import itertools
import random
import unittest

from tests.samples import (
    MOST_GAIN, SIXTY, Unruly, all_ties, as_fraction, as_ratio, firm_webs, is_plain, mixed_webs, most_worth, named_webs,
    odd_things, ring, small_webs, some_webs, web_of, webs_and_sharings,
)
from tests.test_even import firm_sharings, row
from tests.test_swaps import is_swap_by_counting
from twainhoard.best import all_best
from twainhoard.errors import Barred
from twainhoard.even import is_even
from twainhoard.evenest import evenest, evenest_right, levels, row_of
from twainhoard.firm import firm
from twainhoard.pairings import pairings_of, worth
from twainhoard.ratios import is_ratio
from twainhoard.sharings import is_firm, is_sharing, slack
from twainhoard.webs import gain_of, parties

PATH = (4, ((0, 1, 5), (1, 2, 7), (2, 3, 1)))
ROUND = web_of(3, ring(3, (2,)))
BEST = ((0,), (1, 2), (3,))
SHARES = ((0, 1), (11, 2), (3, 2), (0, 1))
PAPERS = [
    ((0, 1), ((0, 1), (2, 3)), ((0,), (1, 2), (3,))),
    ((1,), ((1,), (2, 3)), ((1, 2), (3,))),
    ((2,), ((0, 1), (2,)), ((0,), (1, 2))),
    ((2, 3), ((0, 1), (2, 3)), ((0,), (1, 2), (3,))),
]
EVENEST = (BEST, SHARES, PAPERS)
FREE = (2, ((0, 1, 9),))
FREE_EVENEST = (((0, 1),), ((9, 2), (9, 2)), [
    ((0,), ((0,), (1,)), ((0, 1),)), ((1,), ((0,), (1,)), ((0, 1),)),
])
EACH_TIED = web_of(4, [tie[:2] + (2,) for tie in all_ties(4)])
BARRED = [ROUND, web_of(8, ring(3, (1,)) + [(4, 5, 9)]), web_of(5, ring(5, (MOST_GAIN,))), web_of(7, ring(7, (3,)))]


def shapes():
    """Webs with a firm sharing of every shape that is named: no ties, all, rings, sides, parts, gains of all sizes."""
    sides = [(one, other) for one in range(4) for other in range(4, 8)]
    told = [(people, ()) for people in range(1, 9)]
    rows = ((5,), (2, 7), (9, 3, 4), (MOST_GAIN,))
    told += [web_of(people, ring(people, gains)) for people in (4, 6, 8) for gains in rows]
    told += [web_of(people, [tie[:2] + (6,) for tie in all_ties(people)]) for people in (2, 4, 6, 8)]
    told += [web_of(people, all_ties(people, MOST_GAIN - 27)) for people in (2, 4, 6, 8)]
    told += [web_of(8, [(one, other, MOST_GAIN - 7 * one * other) for one, other in sides])]
    told += [web_of(8, [(one, other, 1 + 17 * one * other * other) for one, other in sides])]
    told += [web_of(8, ring(4, (3, 5)) + [(4, 5, 8), (5, 6, 9)]), web_of(7, ring(4, (1,)) + ring(3, (4, 9, 4), 4))]
    return firm_webs(told + named_webs())


def is_right(web, told):
    """Whether all that is promised of the tuple of three holds, counted by fractions."""
    pairing, shares, papers = told
    if not is_sharing(web, (pairing, shares)) or not is_firm(web, (pairing, shares)):
        return False
    if [paper[0] for paper in papers] != [party for party in parties(web) if party not in pairing]:
        return False
    has = {party: as_fraction(slack(web, shares, party)) for party in parties(web)}
    return all(
        is_swap_by_counting(outs, ins) and party in outs and set(ins) <= set(pairing)
        and max(has[each] for each in outs) <= has[party] for party, outs, ins in papers
    )


def shares_with(shares, person, change):
    return shares[:person] + (as_ratio(as_fraction(shares[person]) + change),) + shares[person + 1:]


class RowTest(unittest.TestCase):

    def test_written_out(self):
        expected = [(0, 1), (0, 1), (0, 1), (1, 2), (1, 2), (3, 2), (11, 2)]
        self.assertEqual(row_of(PATH, SHARES), expected)
        self.assertEqual(row_of((1, ()), ((0, 1),)), [(0, 1)])
        self.assertEqual(row_of((1, ()), ((7, 3),)), [(7, 3)])
        self.assertEqual(row_of(FREE, ((1, 2), (1, 3))), [(-49, 6), (1, 3), (1, 2)])

    def test_below_nought_and_above(self):
        self.assertEqual(row_of(PATH, ((0, 1),) * 4), [(-7, 1), (-5, 1), (-1, 1)] + [(0, 1)] * 4)
        self.assertEqual(row_of(PATH, ((9, 1),) * 4), [(9, 1)] * 4 + [(11, 1), (13, 1), (17, 1)])

    def test_ordered_as_ratios_not_as_tuples(self):
        self.assertEqual(row_of((3, ()), ((1, 2), (2, 7), (1, 3))), [(2, 7), (1, 3), (1, 2)])
        near, nearer = (SIXTY - 2, SIXTY - 1), (SIXTY - 1, SIXTY)
        self.assertEqual(row_of((3, ()), ((1, 1), nearer, near)), [near, nearer, (1, 1)])

    def test_as_fractions_have_it(self):
        chance, seen = random.Random(91), set()
        rows = [(web, sharing[1]) for web, sharing in webs_and_sharings()[::3]]
        for web in named_webs():
            for most, bottom in ((SIXTY, SIXTY), (99, 7)):
                tops = [chance.randint(0, most) for person in range(web[0])]
                rows.append((web, tuple(as_ratio(fractions.Fraction(top, bottom)) for top in tops)))
        for web, shares in rows:
            told = row_of(web, shares)
            self.assertIs(type(told), list)
            self.assertTrue(all(is_ratio(one) for one in told))
            expected = [sum(as_fraction(shares[who]) for who in party) - gain_of(web, party) for party in parties(web)]
            self.assertEqual([as_fraction(one) for one in told], sorted(expected))
            seen.add(min(expected) < 0)
        self.assertEqual(seen, {True, False})


class EvenestTest(unittest.TestCase):

    def check(self, web):
        told = evenest(web)
        self.assertIs(type(told), tuple)
        pairing, shares, papers = told
        self.assertIs(type(papers), list)
        self.assertTrue(is_plain((pairing, shares) + tuple(papers)))
        self.assertEqual(worth(web, pairing), most_worth(web))
        self.assertTrue(is_right(web, told), (web, told))
        self.assertTrue(all(len(outs) <= 100 and len(ins) <= 100 for party, outs, ins in papers))
        self.assertIs(evenest_right(web, told), True)
        for each in all_best(web)[:20]:
            self.assertTrue(is_sharing(web, (each, shares)) and is_even(web, (each, shares)))
        return told

    def test_written_out(self):
        self.assertEqual(self.check(PATH)[:2], EVENEST[:2])
        self.assertEqual(self.check((1, ())), (((0,),), ((0, 1),), []))
        self.assertEqual(self.check((3, ())), (((0,), (1,), (2,)), ((0, 1),) * 3, []))
        self.assertEqual(self.check(FREE)[:2], FREE_EVENEST[:2])
        self.assertEqual(self.check(EACH_TIED)[1], ((1, 1),) * 4)
        self.assertEqual(self.check(web_of(3, [(0, 1, 6), (1, 2, 6)]))[1], ((0, 1), (6, 1), (0, 1)))
        self.assertEqual(self.check(web_of(3, [(0, 1, 6), (1, 2, 4)]))[1], ((1, 1), (5, 1), (0, 1)))
        self.assertEqual(self.check(web_of(4, [(0, 1, 6), (2, 3, 9)]))[1], ((3, 1), (3, 1), (9, 2), (9, 2)))

    def test_bottoms_of_several_kinds(self):
        bottoms = set()
        for web in firm_webs(mixed_webs(92, 150)):
            bottoms.update(bottom for top, bottom in self.check(web)[1])
        self.assertTrue({1, 2, 3, 4} <= bottoms, bottoms)

    def test_shapes(self):
        for web in shapes():
            self.check(web)

    def test_webs_of_every_size(self):
        for web in firm_webs(some_webs() + list(mixed_webs(93, 100))):
            self.check(web)

    def test_all_small_webs(self):
        for people, most in ((2, 3), (3, 3)):
            for web in firm_webs(small_webs(people, most)):
                self.check(web)
        for web in firm_webs(small_webs(4, 2))[::5]:
            self.check(web)

    def test_no_firm_sharing_of_a_grid_has_more(self):
        """Of all firm shares in sixths only the evenest ones reach their own row."""
        for web in firm_webs(list(small_webs(3, 2)) + list(small_webs(4, 1))[::3] + list(small_webs(4, 2))[::60]):
            pairing, shares, papers = evenest(web)
            pairs = [party for party in pairing if len(party) == 2]
            ranges = [range(6 * gain_of(web, pair) + 1) for pair in pairs]
            most, reached = row(web, shares), []
            for tops in itertools.product(*ranges):
                other = [fractions.Fraction(0)] * web[0]
                for (one, two), top in zip(pairs, tops):
                    other[one] = fractions.Fraction(top, 6)
                    other[two] = gain_of(web, (one, two)) - other[one]
                other = tuple(as_ratio(one) for one in other)
                if is_firm(web, (pairing, other)) and row(web, other) >= most:
                    reached.append(other)
            self.assertTrue(reached in ([shares], []), (web, reached))
            if all(6 % bottom == 0 for top, bottom in shares):
                self.assertEqual(reached, [shares])

    def test_no_other_firm_sharing_has_more(self):
        """Also none near by: between the evenest shares and any others the row is less."""
        hairs = [fractions.Fraction(1, bottom) for bottom in (1, 2, 1000, SIXTY)]
        seen = 0
        for web, sharing in firm_sharings(shapes() + list(mixed_webs(94, 60)), 95):
            shares = evenest(web)[1]
            most = row(web, shares)
            for part in hairs:
                mixed = [
                    as_ratio(as_fraction(one) + (as_fraction(other) - as_fraction(one)) * part)
                    for one, other in zip(shares, sharing[1])
                ]
                self.assertTrue(is_firm(web, (sharing[0], tuple(mixed))))
                if tuple(mixed) != shares:
                    self.assertLess(row(web, tuple(mixed)), most)
                    seen += 1
        self.assertGreater(seen, 300)

    def test_whoever_bears_which_number(self):
        """With the people numbered otherwise each has the same."""
        chance = random.Random(96)
        for web in firm_webs(named_webs() + list(mixed_webs(97, 40))):
            order = list(range(web[0]))
            chance.shuffle(order)
            ties = [(min(order[one], order[other]), max(order[one], order[other]), gain) for one, other, gain in web[1]]
            shares, turned = evenest(web)[1], evenest(web_of(web[0], ties))[1]
            self.assertEqual(shares, tuple(turned[order[person]] for person in range(web[0])))

    def test_gains_so_many_times_greater(self):
        for web in firm_webs(mixed_webs(98, 60)):
            shares = evenest(web)[1]
            greater = (web[0], tuple((one, other, 7 * gain) for one, other, gain in web[1]))
            self.assertEqual(evenest(greater)[1], tuple(as_ratio(as_fraction(share) * 7) for share in shares))

    def test_barred(self):
        for web in BARRED:
            self.assertRaises(Barred, evenest, web)
            self.assertRaises(Barred, levels, web)
        for web in named_webs() + list(mixed_webs(99, 60)):
            if firm(web)[0] == "barred":
                self.assertRaises(Barred, evenest, web)
                self.assertRaises(Barred, levels, web)


class LevelsTest(unittest.TestCase):

    def test_written_out(self):
        self.assertEqual(levels(PATH), [
            ((0, 1), ((0,), (1, 2), (3,))), ((1, 2), ((0, 1), (2, 3))), ((3, 2), ((2,),)), ((11, 2), ((1,),)),
        ])
        self.assertEqual(levels((1, ())), [((0, 1), ((0,),))])
        self.assertEqual(levels((2, ())), [((0, 1), ((0,), (1,)))])
        self.assertEqual(levels(FREE), [((0, 1), ((0, 1),)), ((9, 2), ((0,), (1,)))])
        self.assertEqual(levels(EACH_TIED), [
            ((0, 1), ((0, 1), (0, 2), (0, 3), (1, 2), (1, 3), (2, 3))), ((1, 1), ((0,), (1,), (2,), (3,))),
        ])

    def test_all_parties_by_their_slack(self):
        for web in shapes() + firm_webs(mixed_webs(101, 80)):
            shares, told = evenest(web)[1], levels(web)
            self.assertIs(type(told), list)
            self.assertTrue(is_plain(tuple(told)))
            slacks = [as_fraction(one) for one, some in told]
            self.assertEqual(slacks, sorted(set(slacks)))
            self.assertEqual(sorted(party for one, some in told for party in some), parties(web))
            for one, some in told:
                self.assertEqual(list(some), sorted(some))
                self.assertTrue(some)
                for party in some:
                    self.assertEqual(slack(web, shares, party), one)
            self.assertEqual([one for one, some in told for party in some], row_of(web, shares))


class JudgeTest(unittest.TestCase):

    def judged(self, told, expected, web=PATH):
        self.assertIs(evenest_right(web, told), expected, told)

    def test_written_out(self):
        self.judged(EVENEST, True)
        self.judged(FREE_EVENEST, True, FREE)
        self.judged((((0,),), ((0, 1),), []), True, (1, ()))
        self.judged((((0,),), ((1, 1),), []), False, (1, ()))
        self.judged((((0,), (1,)), ((0, 1),) * 2, []), True, (2, ()))

    def with_paper(self, at, paper):
        return (BEST, SHARES, PAPERS[:at] + [paper] + PAPERS[at + 1:])

    def test_other_swaps(self):
        twice = tuple(tuple(sorted(some * 2)) for some in PAPERS[0][1:])
        self.judged(self.with_paper(0, PAPERS[0][:1] + twice), True)
        beside = tuple(tuple(sorted(some + ((1, 2), (3,)))) for some in PAPERS[0][1:])
        self.judged(self.with_paper(0, PAPERS[0][:1] + beside), True)
        many = tuple(tuple(sorted(some * 33)) for some in PAPERS[0][1:])
        self.judged(self.with_paper(0, PAPERS[0][:1] + many), True)
        other = ((1,), ((1,), (1,), (2,), (2, 3)), ((1, 2), (1, 2), (3,)))
        self.judged(self.with_paper(1, other), True)
        self.judged(self.with_paper(1, ((1,), ((1,), (2,)), ((1, 2),))), True)

    def for_pairing(self, web, told, pairing):
        """What is told, written anew for another best pairing: the parties of the first one go out for it."""
        papers = [((party,) + (told[0], pairing)) for party in told[0] if party not in pairing]
        for party, outs, ins in told[2]:
            if party not in pairing:
                times = max(ins.count(one) for one in ins)
                back = [one for one in told[0] for time in range(times - ins.count(one))]
                papers.append((party, tuple(sorted(outs + tuple(back))), tuple(sorted(pairing * times))))
        return (pairing, told[1], sorted(papers))

    def test_another_best_pairing(self):
        seen = 0
        for web in shapes() + firm_webs(mixed_webs(102, 60)):
            told = evenest(web)
            for pairing in all_best(web)[:6]:
                if pairing != told[0]:
                    changed = self.for_pairing(web, told, pairing)
                    self.assertTrue(is_right(web, changed))
                    self.judged(changed, True, web)
                    self.judged((pairing,) + told[1:], False, web)
                    self.judged((told[0],) + changed[1:], False, web)
                    seen += 1
        self.assertGreater(seen, 40)

    def test_a_share_more_or_less(self):
        for change in (1, -1, fractions.Fraction(1, 2), fractions.Fraction(1, SIXTY), -fractions.Fraction(1, SIXTY)):
            for person in range(4):
                self.judged((BEST, shares_with(SHARES, person, change), PAPERS), False)
            both = shares_with(shares_with(SHARES, 1, change), 2, -change)
            self.judged((BEST, both, PAPERS), False)
        for shares in ((), SHARES[:3], SHARES + ((0, 1),), SHARES * 25):
            self.judged((BEST, shares, PAPERS), False)

    def test_firm_but_not_the_evenest(self):
        """No papers that anybody could write make other firm shares right."""
        one, other = ((0,), ((0,), (0,), (1,)), ((0,), (0, 1))), ((1,), ((0,), (1,)), ((0, 1),))
        for shares in (((9, 1), (0, 1)), ((5, 1), (4, 1)), ((9 * SIXTY + 1, 2 * SIXTY), (9 * SIXTY - 1, 2 * SIXTY))):
            self.judged((((0, 1),), shares, FREE_EVENEST[2]), False, FREE)
            self.judged((((0, 1),), shares, [one, other]), False, FREE)

    def test_a_pairing_that_is_not_best(self):
        for pairing in [pairing for pairing in pairings_of(PATH) if pairing != BEST]:
            self.judged((pairing, SHARES, PAPERS), False)
        for pairing in ((), BEST[:2], BEST[::-1], BEST + ((3,),), BEST[:1] + BEST, ((0,), (1,), (1, 2), (3,))):
            self.judged((pairing, SHARES, PAPERS), False)

    def test_papers_left_out_or_told_twice(self):
        self.judged((BEST, SHARES, []), False)
        self.judged((BEST, SHARES, PAPERS * 25), False)
        for at in range(4):
            self.judged((BEST, SHARES, PAPERS[:at] + PAPERS[at + 1:]), False)
            self.judged((BEST, SHARES, PAPERS[:at] + PAPERS[at:at + 1] + PAPERS[at:]), False)

    def test_papers_out_of_order(self):
        for papers in itertools.permutations(PAPERS):
            self.judged((BEST, SHARES, list(papers)), list(papers) == PAPERS)

    def test_papers_of_the_pairings_parties(self):
        for party in BEST:
            self.judged((BEST, SHARES, sorted(PAPERS + [(party, (party,), (party,))])), False)
            self.judged((BEST, SHARES, PAPERS + [(party, (party,), (party,))]), False)
            self.judged(self.with_paper(0, (party, (party,), (party,))), False)

    def test_spoilt_papers(self):
        for at, paper in enumerate(PAPERS):
            party, outs, ins = paper
            self.judged(self.with_paper(at, (party, ins, outs)), False)
            self.judged(self.with_paper(at, (party, ins, ins)), False)
            self.judged(self.with_paper(at, (party, (), ())), False)
            self.judged(self.with_paper(at, (party, outs, ())), False)
            self.judged(self.with_paper(at, (party, (), ins)), False)
            self.judged(self.with_paper(at, (party, (party,), (party,))), False)
            self.judged(self.with_paper(at, (party, outs, outs)), False)
            self.judged(self.with_paper(at, (party, outs[::-1], ins)), False)
            self.judged(self.with_paper(at, (party, outs, ins[::-1])), False)
            self.judged(self.with_paper(at, (party, outs + outs[-1:], ins)), False)
            self.judged(self.with_paper(at, (party, outs, ins[1:])), False)

    def test_too_great_a_slack(self):
        """A swap with the party in its outs and ins of the pairing, but an out of more slack."""
        paper = ((0, 1), ((0, 1), (2,)), ((0,), (1, 2)))
        self.judged(self.with_paper(0, paper), False)
        paper = ((2,), ((1,), (2,)), ((1, 2),))
        self.judged(self.with_paper(2, paper), False)
        paper = ((1,), ((1,), (2,)), ((1, 2),))
        self.judged(self.with_paper(1, paper), True)

    def test_ins_that_are_not_of_the_pairing(self):
        self.judged(self.with_paper(0, ((0, 1), ((0, 1), (0, 1), (2, 3)), ((0,), (0, 1), (1, 2), (3,)))), False)
        self.judged(self.with_paper(1, ((1,), ((1,), (2, 3)), ((1,), (2, 3)))), False)

    def test_party_that_is_not_in_its_outs(self):
        self.judged(self.with_paper(1, ((1,),) + PAPERS[0][1:]), False)
        self.judged(self.with_paper(2, ((2,),) + PAPERS[0][1:]), False)

    def test_spoilt_by_chance(self):
        chance, seen = random.Random(103), {True: 0, False: 0}
        for web in firm_webs(named_webs() + list(mixed_webs(104, 60))):
            told = evenest(web)
            for changed in self.spoilt(web, told, chance):
                expected = is_right(web, changed)
                self.judged(changed, expected, web)
                seen[expected] += 1
        self.assertGreater(seen[True], 10)
        self.assertGreater(seen[False], 200)

    def spoilt(self, web, told, chance):
        pairing, shares, papers = told
        some = parties(web)
        yield (chance.choice(pairings_of(web)), shares, papers)
        change = chance.choice((1, -1, fractions.Fraction(1, 7)))
        yield (pairing, shares_with(shares, chance.randrange(web[0]), change), papers)
        for time in range(5 if papers else 0):
            at = chance.randrange(len(papers))
            party, outs, ins = papers[at]
            place, row_of_parties = chance.choice(((1, list(outs)), (2, list(ins))))
            row_of_parties[chance.randrange(len(row_of_parties))] = chance.choice(some)
            paper = papers[at][:place] + (tuple(sorted(row_of_parties)),) + papers[at][place + 1:]
            yield (pairing, shares, papers[:at] + [paper] + papers[at + 1:])
            other = papers[chance.randrange(len(papers))]
            yield (pairing, shares, papers[:at] + [(party,) + other[1:]] + papers[at + 1:])

    def test_other_forms(self):
        self.judged((), False)
        self.judged(EVENEST[:2], False)
        self.judged(EVENEST + ([],), False)
        self.judged(list(EVENEST), False)
        self.judged((BEST, SHARES, tuple(PAPERS)), False)
        self.judged((list(BEST), SHARES, PAPERS), False)
        self.judged((BEST, list(SHARES), PAPERS), False)
        for thing in odd_things() + [Unruly(), (Unruly(),) * 3]:
            self.judged(thing, False)
            self.judged((thing, SHARES, PAPERS), False)
            self.judged((BEST, thing, PAPERS), False)
            self.judged((BEST, SHARES, thing), False)
            for at in range(4):
                self.judged(self.with_paper(at, thing), False)
                for place in range(3):
                    self.judged(self.with_paper(at, PAPERS[at][:place] + (thing,) + PAPERS[at][place + 1:]), False)

    def test_barred_goes_ahead(self):
        for web in BARRED:
            for told in (EVENEST, (), None, Unruly(), evenest(FREE)):
                self.assertRaises(Barred, evenest_right, web, told)


class OwnTest(unittest.TestCase):

    def test_handed_in_stays_and_told_is_own(self):
        for web in shapes()[::2]:
            kept = copy.deepcopy(web)
            for ask in (evenest, levels, lambda web: row_of(web, ((1, 2),) * web[0])):
                first = ask(web)
                again = copy.deepcopy(first)
                self.spoil(first)
                self.assertEqual(ask(web), again)
            told = evenest(web)
            kept_told = copy.deepcopy(told)
            evenest_right(web, told)
            self.assertEqual(told, kept_told)
            self.assertEqual(web, kept)
            self.assertIsNot(evenest(web)[2], evenest(web)[2])

    def spoil(self, told):
        if isinstance(told, list):
            told.append("spoilt")
        else:
            told[2].append("spoilt")


if __name__ == "__main__":
    unittest.main()
