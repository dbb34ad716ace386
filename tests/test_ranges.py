"""Promise 17: the least and the greatest slack of a party by all firm sharings, and the judges of both."""

import copy
import fractions
import random
import unittest

from tests.samples import (
    MOST_GAIN, SIXTY, Unruly, all_ties, as_fraction, as_ratio, firm_webs, half_covers, is_plain, mixed_webs,
    most_worth, named_webs, odd_things, ring, small_webs, some_webs, web_of,
)
from tests.test_swaps import counts
from twainhoard.best import all_best
from twainhoard.errors import Barred, NoParty
from twainhoard.firm import firm
from twainhoard.pairings import pairings_of, worth
from twainhoard.ranges import greatest_right, greatest_slack, least_right, least_slack
from twainhoard.sharings import is_firm, is_sharing, slack
from twainhoard.webs import gain_of, is_party, parties

PATH = (4, ((0, 1, 5), (1, 2, 7), (2, 3, 1)))
ROUND = web_of(3, ring(3, (2,)))
BEST = ((0,), (1, 2), (3,))
LEAST = ((5, 1), BEST, ((0, 1), (0, 1)), ((0,), (0,)), ((0, 1), (5, 1), (2, 1), (0, 1)))
GREATEST = ((6, 1), BEST, ((2, 3), (2, 3)), ((1, 2), (1, 2), (3,), (3,)), ((0, 1), (6, 1), (1, 1), (0, 1)))
ALL_FOUR = (
    least_slack, greatest_slack, lambda web, party: least_right(web, party, LEAST),
    lambda web, party: greatest_right(web, party, GREATEST),
)


def binds(web, party, bound, many, few):
    """Whether parties bind a slack as promised, counted person by person."""
    more = dict(counts(few))
    for person in party:
        more[person] = more.get(person, 0) + 2
    if more != counts(many) or list(many) != sorted(many) or list(few) != sorted(few):
        return False
    return fractions.Fraction(worth(web, many) - worth(web, few), 2) - gain_of(web, party) == as_fraction(bound)


def is_right(web, party, told, least):
    """Whether all that is promised of the tuple of five holds."""
    bound, pairing, outs, ins, shares = told
    if not is_sharing(web, (pairing, shares)) or not is_firm(web, (pairing, shares)):
        return False
    if slack(web, shares, party) != bound or not set(ins) <= set(pairing) or worth(web, pairing) != most_worth(web):
        return False
    return binds(web, party, bound, outs, ins) if least else binds(web, party, bound, ins, outs)


class ToldTest(unittest.TestCase):

    def check(self, web, party):
        low, high = least_slack(web, party), greatest_slack(web, party)
        for told, judge, least in ((low, least_right, True), (high, greatest_right, False)):
            self.assertIs(type(told), tuple)
            self.assertEqual(len(told), 5)
            self.assertTrue(is_plain(told))
            self.assertTrue(all(is_party(web, one) for one in told[2] + told[3]))
            self.assertTrue(is_right(web, party, told, least), (web, party, told))
            self.assertIs(judge(web, party, told), True, (web, party, told))
        self.assertLessEqual(0, as_fraction(low[0]))
        self.assertLessEqual(as_fraction(low[0]), as_fraction(high[0]))
        return low, high

    def test_written_out(self):
        expected = {
            (0,): (0, 0), (1,): (5, 6), (2,): (1, 2), (3,): (0, 0), (0, 1): (0, 1), (1, 2): (0, 0), (2, 3): (0, 1),
        }
        for party, (low, high) in expected.items():
            self.assertEqual(least_slack(PATH, party)[0], (low, 1))
            self.assertEqual(greatest_slack(PATH, party)[0], (high, 1))
        for person in (0, 1):
            self.assertEqual(least_slack((2, ((0, 1, 9),)), (person,))[0], (0, 1))
            self.assertEqual(greatest_slack((2, ((0, 1, 9),)), (person,))[0], (9, 1))
        self.assertEqual(least_slack((1, ()), (0,))[0], (0, 1))
        self.assertEqual(greatest_slack((1, ()), (0,))[0], (0, 1))

    def test_halves(self):
        web = web_of(4, ring(3, (1,)) + [(0, 3, 1)])
        self.assertEqual([least_slack(web, (person,))[0] for person in range(4)], [(1, 2), (0, 1), (0, 1), (0, 1)])
        self.assertEqual([greatest_slack(web, (person,))[0] for person in range(4)], [(1, 1), (1, 1), (1, 1), (1, 2)])
        web = web_of(4, ring(3, (3,)) + [(one, 3, 3) for one in range(3)])
        for party in parties(web):
            low, high = self.check(web, party)
            self.assertEqual(low[0], high[0])
            self.assertEqual(low[0], (3, 2) if len(party) == 1 else (0, 1))

    def test_each_party_of_small_webs(self):
        for people, most in ((2, 3), (3, 2), (3, 3)):
            for web in firm_webs(small_webs(people, most)):
                self.check_against_all(web)
        for web in firm_webs(small_webs(4, 2))[::13]:
            self.check_against_all(web)

    def check_against_all(self, web):
        """Halves are enough: the firm shares reach their least and greatest slacks at halves."""
        most = most_worth(web)
        rows = [shares for shares in half_covers(web) if sum(shares) == most]
        for party in parties(web):
            slacks = [sum(shares[person] for person in party) - gain_of(web, party) for shares in rows]
            low, high = self.check(web, party)
            self.assertEqual(low[0], as_ratio(min(slacks)))
            self.assertEqual(high[0], as_ratio(max(slacks)))

    def test_shapes(self):
        for web in firm_webs(named_webs()):
            for party in parties(web):
                self.check(web, party)

    def test_webs_of_every_size(self):
        for web in firm_webs(some_webs() + list(mixed_webs(71, 60))):
            for party in parties(web)[::1 if web[0] < 7 else 3]:
                self.check(web, party)

    def test_no_firm_sharing_has_less_or_more(self):
        chance = random.Random(72)
        for web in firm_webs(mixed_webs(73, 50)):
            bounds = {party: self.check(web, party) for party in parties(web)}
            rows = [told[4] for low_high in bounds.values() for told in low_high]
            rows += [self.between(one, other) for one, other in zip(rows, chance.sample(rows, len(rows)))]
            for shares in rows:
                self.assertTrue(is_firm(web, (bounds[(0,)][0][1], shares)))
                for party, (low, high) in bounds.items():
                    has = as_fraction(slack(web, shares, party))
                    self.assertLessEqual(as_fraction(low[0]), has)
                    self.assertLessEqual(has, as_fraction(high[0]))

    def between(self, one, other):
        third = fractions.Fraction(1, 3)
        return tuple(as_ratio(as_fraction(a) * third + as_fraction(b) * 2 * third) for a, b in zip(one, other))

    def test_gains_at_the_bound(self):
        webs = [web_of(8, [tie[:2] + (MOST_GAIN,) for tie in all_ties(8)]), web_of(8, all_ties(8, MOST_GAIN - 27))]
        webs.append(web_of(8, [(one, other, MOST_GAIN - one * other) for one in range(4) for other in range(4, 8)]))
        for web in firm_webs(webs):
            for party in parties(web)[::2]:
                self.check(web, party)

    def test_handed_in_stays(self):
        for web in firm_webs(named_webs())[::3]:
            for party in parties(web)[::4]:
                kept = copy.deepcopy((web, party))
                for tell, judge in ((least_slack, least_right), (greatest_slack, greatest_right)):
                    told = tell(web, party)
                    kept_told = copy.deepcopy(told)
                    judge(web, party, told)
                    self.assertEqual(tell(web, party), kept_told)
                    self.assertEqual(told, kept_told)
                self.assertEqual((web, party), kept)


class JudgeTest(unittest.TestCase):

    def test_written_out(self):
        self.assertIs(least_right(PATH, (1,), LEAST), True)
        self.assertIs(greatest_right(PATH, (1,), GREATEST), True)
        self.assertIs(greatest_right(PATH, (1,), LEAST), False)
        self.assertIs(least_right(PATH, (1,), GREATEST), False)

    def test_what_else_is_right(self):
        more = (LEAST[0], BEST, ((0, 1), (0, 1), (1, 2)), ((0,), (0,), (1, 2)), LEAST[4])
        self.assertIs(least_right(PATH, (1,), more), True)
        more = GREATEST[:2] + (((2, 3), (2, 3), (3,)), ((1, 2), (1, 2), (3,), (3,), (3,)), GREATEST[4])
        self.assertIs(greatest_right(PATH, (1,), more), True)
        free = (2, ((0, 1, 9),))
        self.assertIs(least_right(free, (0, 1), ((0, 1), ((0, 1),), ((0, 1),) * 2, (), ((2, 1), (7, 1)))), True)
        self.assertIs(greatest_right(free, (0, 1), ((0, 1), ((0, 1),), (), ((0, 1),) * 2, ((9, 7), (54, 7)))), True)

    def test_spoilt_written_out(self):
        places = (
            ((4, 1), (6, 1), (0, 1), (10, 1), (-5, 1), (5 * SIXTY + 1, SIXTY)),
            (((0, 1), (2, 3)), ((0,), (1,), (2,), (3,)), ((1, 2), (0,), (3,)), ((0,), (1, 2)), (),
             ((0, 1), (2,), (3,)), BEST + ((3,),)),
            (((0, 1),), (), ((0, 1),) * 3, ((0, 1), (0, 1), (1,)), ((0,), (0,), (1,), (1,)), ((1, 2), (1, 2)),
             ((0, 1), (0,), (1,)), ((0, 1),) * 100, ((0, 1), (0, 1), (0, 1), (2,))),
            ((), ((0,),), ((0,), (0,), (0,)), ((0,), (1,)), ((0, 1),), ((0, 1), (0, 1)), ((0,), (3,)), ((0,),) * 100),
            (((0, 1), (6, 1), (1, 1), (0, 1)), ((0, 1), (5, 1), (2, 1)), ((0, 1), (5, 1), (3, 1), (0, 1)), (),
             ((1, 1), (5, 1), (2, 1), (0, 1)), ((0, 1), (5, 1), (2, 1), (0, 1), (0, 1)), ((0, 1),) * 4,
             ((0, 1), (5, 1), (1, 1), (0, 1)), ((0, 1), (-5, 1), (12, 1), (0, 1)), ((0, 1),) * 100),
        )
        for place, things in enumerate(places):
            for thing in things:
                told = LEAST[:place] + (thing,) + LEAST[place + 1:]
                self.assertIs(least_right(PATH, (1,), told), False, told)

    def test_unsorted(self):
        outs, ins = ((0, 1), (0, 1), (1, 2)), ((0,), (0,), (1, 2))
        told = lambda one, other: (LEAST[0], BEST, one, other, LEAST[4])
        self.assertIs(least_right(PATH, (1,), told(outs, ins)), True)
        self.assertIs(least_right(PATH, (1,), told(outs[::-1], ins)), False)
        self.assertIs(least_right(PATH, (1,), told(outs, ins[::-1])), False)

    def test_ins_must_be_of_the_pairing(self):
        told = (LEAST[0], BEST, ((0, 1),) * 3, ((0,), (0,), (0, 1)), LEAST[4])
        self.assertIs(least_right(PATH, (1,), told), False)
        told = GREATEST[:2] + (((2, 3), (2, 3), (2, 3)), ((1, 2), (1, 2), (2, 3), (3,), (3,)), GREATEST[4])
        self.assertIs(greatest_right(PATH, (1,), told), False)

    def test_a_slack_that_is_not_the_least(self):
        """A firm sharing has it, and outs and ins hold as they should, but they bind less."""
        shares = ((0, 1), (11, 2), (3, 2), (0, 1))
        told = ((11, 2), BEST, LEAST[2], LEAST[3], shares)
        self.assertIs(least_right(PATH, (1,), told), False)
        told = ((5, 1), BEST, LEAST[2], LEAST[3], shares)
        self.assertIs(least_right(PATH, (1,), told), False)
        told = ((5, 1), BEST, ((1,), (1,)), (), LEAST[4])
        self.assertIs(least_right(PATH, (1,), told), False)

    def test_of_another_party_or_web(self):
        for party in parties(PATH):
            self.assertIs(least_right(PATH, party, LEAST), party == (1,))
            self.assertIs(greatest_right(PATH, party, GREATEST), party == (1,))
        self.assertIs(least_right((4, ((0, 1, 4), (1, 2, 7), (2, 3, 1))), (1,), LEAST), False)
        self.assertIs(least_right((4, ((0, 1, 5), (1, 2, 9), (2, 3, 1))), (1,), LEAST), False)
        self.assertIs(least_right((4, ((1, 2, 7), (2, 3, 1))), (1,), LEAST), False)
        self.assertIs(least_right((5, PATH[1]), (1,), LEAST), False)
        self.assertIs(greatest_right((4, ((0, 1, 5), (1, 2, 7), (2, 3, 2))), (1,), GREATEST), False)

    def test_each_other_best_pairing_will_do(self):
        seen = 0
        for web in firm_webs(named_webs()):
            right = all_best(web)
            wrong = [pairing for pairing in pairings_of(web) if pairing not in right]
            for party in parties(web)[::5]:
                low = least_slack(web, party)
                for pairing in right[:8]:
                    changed = low[:1] + (pairing,) + low[2:]
                    expected = set(low[3]) <= set(pairing)
                    self.assertIs(least_right(web, party, changed), expected)
                    seen += expected and pairing != low[1]
                for pairing in wrong[:3]:
                    self.assertIs(least_right(web, party, low[:1] + (pairing,) + low[2:]), False)
        self.assertGreater(seen, 5)

    def spoilt(self, web, told, chance):
        """The told tuple with one of its five places changed, each in turn."""
        bound, pairing, outs, ins, shares = told
        everyone = parties(web)
        yield (as_ratio(as_fraction(bound) + chance.choice((-1, 1, fractions.Fraction(1, SIXTY)))),) + told[1:]
        yield told[:1] + (chance.choice(pairings_of(web)),) + told[2:]
        for place in (2, 3):
            row = list(told[place])
            if row:
                row[chance.randrange(len(row))] = chance.choice(everyone)
                yield told[:place] + (tuple(sorted(row)),) + told[place + 1:]
                yield told[:place] + (told[place][1:],) + told[place + 1:]
            yield told[:place] + (tuple(sorted(row + [chance.choice(everyone)])),) + told[place + 1:]
        person = chance.randrange(web[0])
        share = as_ratio(as_fraction(shares[person]) + chance.choice((-1, 1, fractions.Fraction(-1, 2))))
        yield told[:4] + (shares[:person] + (share,) + shares[person + 1:],)
        yield (bound, pairing, ins, outs, shares)

    def test_spoilt_in_each_place(self):
        chance, seen = random.Random(74), {True: 0, False: 0}
        for web in firm_webs(named_webs() + list(mixed_webs(75, 60))):
            for party in parties(web)[::4]:
                for tell, judge, least in (
                    (least_slack, least_right, True), (greatest_slack, greatest_right, False),
                ):
                    for told in self.spoilt(web, tell(web, party), chance):
                        expected = is_right(web, party, told, least)
                        self.assertIs(judge(web, party, told), expected, (web, party, told))
                        seen[expected] += 1
        self.assertGreater(seen[True], 10)
        self.assertGreater(seen[False], 1000)

    def test_other_forms(self):
        for told in [
            (), LEAST[:4], LEAST + ((),), list(LEAST), (list(LEAST[0]),) + LEAST[1:], (5,) + LEAST[1:],
            ((10, 2),) + LEAST[1:], (None,) + LEAST[1:], (LEAST,) * 5,
        ] + [LEAST[:at] + (thing,) + LEAST[at + 1:] for at in range(5) for thing in [Unruly(), None, list(LEAST[at])]]:
            self.assertIs(least_right(PATH, (1,), told), False)
            self.assertIs(greatest_right(PATH, (1,), told), False)
        for thing in odd_things():
            for place in range(5):
                told = LEAST[:place] + (thing,) + LEAST[place + 1:]
                self.assertIs(least_right(PATH, (1,), told), False)
            self.assertIs(greatest_right(PATH, (1,), thing), False)


class RefusalTest(unittest.TestCase):

    def test_no_party(self):
        wrong = [(0, 2), (0, 3), (1, 0), (4,), (0, 0), (0, 1, 2), [0], [0, 1], 0, (True,), (0, True), None]
        for web in (PATH, ROUND, (1, ())):
            for ask in ALL_FOUR:
                for thing in odd_things() + [thing for thing in wrong if web == PATH]:
                    with self.assertRaises(NoParty):
                        ask(web, thing)

    def test_barred(self):
        for web in [ROUND, web_of(8, ring(3, (1,)) + [(4, 5, 9)]), web_of(5, ring(5, (MOST_GAIN,)))]:
            for party in parties(web):
                for ask in ALL_FOUR:
                    with self.assertRaises(Barred):
                        ask(web, party)

    def test_no_party_goes_first(self):
        for ask in ALL_FOUR:
            with self.assertRaises(NoParty):
                ask(web_of(4, ring(3, (1,))), (0, 3))
            with self.assertRaises(NoParty):
                ask(ROUND, (3,))

    def test_judges_refuse_whatever_is_told(self):
        for told in (LEAST, (), None):
            for judge in (least_right, greatest_right):
                with self.assertRaises(Barred):
                    judge(ROUND, (0, 1), told)
                with self.assertRaises(NoParty):
                    judge(PATH, (0, 2), told)

    def test_all_barred_webs_and_no_other(self):
        for web in mixed_webs(76, 60):
            if firm(web)[0] == "barred":
                for ask in ALL_FOUR:
                    with self.assertRaises(Barred):
                        ask(web, (web[0] - 1,))
            else:
                for ask in ALL_FOUR:
                    ask(web, (web[0] - 1,))


if __name__ == "__main__":
    unittest.main()
