"""Promise 15: swaps, and the slack that the ins' worth leaves to the outs."""

import copy
import itertools
import random
import unittest

from tests.samples import MOST_GAIN, all_ties, as_fraction, mixed_webs, named_webs, web_of
from twainhoard.firm import firm
from twainhoard.sharings import slack
from twainhoard.swaps import is_swap, swap_slack
from twainhoard.webs import gain_of, parties

WEB = (4, ((0, 1, 5), (0, 2, 3), (1, 2, 7), (2, 3, 1)))


def counts(some):
    """How often each person stands in parties, as a dict."""
    told = {}
    for party in some:
        for person in party:
            told[person] = told.get(person, 0) + 1
    return told


def is_swap_by_counting(outs, ins):
    return list(outs) == sorted(outs) and list(ins) == sorted(ins) and counts(outs) == counts(ins)


class IsSwapTest(unittest.TestCase):

    def test_written_out(self):
        self.assertIs(is_swap(WEB, ((0, 1), (2, 3)), ((0,), (1, 2), (3,))), True)
        self.assertIs(is_swap(WEB, ((0, 1),), ((0,), (1,))), True)
        self.assertIs(is_swap(WEB, ((0, 1), (0, 2), (1, 2)), ((0,), (0,), (1, 2), (1, 2))), True)

    def test_of_none(self):
        self.assertIs(is_swap(WEB, (), ()), True)
        self.assertIs(is_swap(WEB, ((0,),), ()), False)
        self.assertIs(is_swap(WEB, (), ((0,),)), False)

    def test_a_party_in_both_and_repeats(self):
        self.assertIs(is_swap(WEB, ((0, 1),), ((0, 1),)), True)
        self.assertIs(is_swap(WEB, ((0, 1), (0, 1), (2,)), ((0, 1), (0, 1), (2,))), True)
        self.assertIs(is_swap(WEB, ((0, 1),) * 50, ((0,),) * 50 + ((1,),) * 50), True)
        self.assertIs(is_swap(WEB, ((0, 1),) * 50, ((0,),) * 50 + ((1,),) * 49), False)
        self.assertIs(is_swap(WEB, ((0, 1),) * 2, ((0, 1),)), False)
        self.assertIs(is_swap(WEB, ((0, 1),), ((0, 1),) * 2), False)

    def test_unequal_counts(self):
        self.assertIs(is_swap(WEB, ((0, 1),), ((0,),)), False)
        self.assertIs(is_swap(WEB, ((0, 1),), ((0,), (2,))), False)
        self.assertIs(is_swap(WEB, ((0, 1),), ((0,), (1,), (1,))), False)
        self.assertIs(is_swap(WEB, ((0,), (1,), (2,)), ((0, 1),)), False)
        self.assertIs(is_swap(WEB, ((0, 1), (2, 3)), ((0, 2), (1,))), False)
        self.assertIs(is_swap(WEB, ((0, 1), (2,)), ((0, 2), (2,))), False)

    def test_unsorted(self):
        outs, ins = ((0, 1), (0, 2), (1, 2), (3,)), ((0,), (0,), (1, 2), (1, 2), (3,))
        for order in itertools.permutations(outs):
            self.assertIs(is_swap(WEB, order, ins), order == outs)
            self.assertIs(is_swap(WEB, ins, order), order == outs)

    def test_parties_of_no_tie(self):
        self.assertIs(is_swap(WEB, ((0, 3),), ((0,), (3,))), False)
        self.assertIs(is_swap(WEB, ((0,), (3,)), ((0, 3),)), False)
        self.assertIs(is_swap(WEB, ((4,),), ((4,),)), False)

    def test_as_counting_has_it(self):
        chance, seen = random.Random(51), set()
        for web in mixed_webs(52, 150):
            all_parties = parties(web)
            for time in range(20):
                outs = tuple(chance.choice(all_parties) for at in range(chance.randrange(4)))
                ins = tuple(chance.choice(all_parties) for at in range(chance.randrange(4)))
                if time % 2:
                    outs, ins = tuple(sorted(outs)), tuple(sorted(ins))
                expected = is_swap_by_counting(outs, ins)
                self.assertIs(is_swap(web, outs, ins), expected)
                seen.add((expected, outs == ins))
        self.assertEqual(len(seen), 4)


class SwapSlackTest(unittest.TestCase):

    def test_of_a_swap(self):
        self.assertEqual(swap_slack(WEB, ((0, 1), (2, 3)), ((0,), (1, 2), (3,))), 1)
        self.assertEqual(swap_slack(WEB, ((0,), (1, 2), (3,)), ((0, 1), (2, 3))), -1)
        self.assertEqual(swap_slack(WEB, (), ()), 0)
        self.assertEqual(swap_slack(WEB, ((0, 1), (0, 2), (1, 2)), ((0,), (0,), (1, 2), (1, 2))), -1)

    def test_of_what_is_none(self):
        self.assertEqual(swap_slack(WEB, ((0, 1),), ()), -5)
        self.assertEqual(swap_slack(WEB, (), ((0, 1), (0, 1))), 10)
        self.assertEqual(swap_slack(WEB, ((2, 3), (0, 1)), ((1, 2), (0,), (0,))), 1)
        self.assertEqual(swap_slack(WEB, ((0,),), ((3,), (3,))), 0)
        self.assertIs(type(swap_slack(WEB, ((0,),), ())), int)

    def test_at_the_bounds(self):
        web = web_of(8, [tie[:2] + (MOST_GAIN,) for tie in all_ties(8)])
        self.assertEqual(swap_slack(web, ((0, 1),) * 100, ()), -100 * MOST_GAIN)
        self.assertEqual(swap_slack(web, ((7,),) * 100, ((6, 7),) * 100), 100 * MOST_GAIN)

    def test_whole_numbers_add_up(self):
        chance = random.Random(53)
        for web in mixed_webs(54, 150):
            all_parties = parties(web)
            outs = tuple(chance.choice(all_parties) for at in range(chance.randrange(9)))
            ins = tuple(chance.choice(all_parties) for at in range(chance.randrange(9)))
            expected = sum(gain_of(web, party) for party in ins) - sum(gain_of(web, party) for party in outs)
            self.assertEqual(swap_slack(web, outs, ins), expected)

    def test_the_slacks_of_the_outs(self):
        """Where each of the ins has slack 0, the outs' slacks come together to the swap's slack."""
        many = 0
        for web in named_webs():
            told = firm(web)
            if told[0] == "firm":
                for outs in itertools.combinations_with_replacement(parties(web), 2):
                    for ins in itertools.combinations_with_replacement(told[1], 2):
                        if is_swap(web, outs, ins):
                            together = sum(as_fraction(slack(web, told[2], party)) for party in outs)
                            self.assertEqual(together, swap_slack(web, outs, ins))
                            many += outs != ins
        self.assertGreater(many, 10)

    def test_handed_in_stays(self):
        outs, ins = ((0, 1), (2, 3)), ((0,), (1, 2), (3,))
        kept = copy.deepcopy((WEB, outs, ins))
        self.assertEqual(is_swap(WEB, outs, ins), is_swap(WEB, outs, ins))
        self.assertEqual(swap_slack(WEB, outs, ins), swap_slack(WEB, outs, ins))
        self.assertEqual((WEB, outs, ins), kept)


if __name__ == "__main__":
    unittest.main()
