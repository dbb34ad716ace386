"""The interface as it stands, and what promise 4 says of the whole."""

import importlib
import inspect
import unittest

from tests.samples import as_fraction, mixed_webs, most_worth, named_webs
from tests.test_leading import all_alone
from twainhoard.best import all_best, best
from twainhoard.covers import cover, is_cover, is_double
from twainhoard.deeds import behind
from twainhoard.errors import Barred
from twainhoard.evenest import evenest, evenest_right, levels, row_of
from twainhoard.even import is_even
from twainhoard.firm import firm, firm_right, gift
from twainhoard.fixing import firm_for, fixing_right
from twainhoard.groups import paper_holds, paper_sum
from twainhoard.leading import leading
from twainhoard.pairings import pairings_of, worth
from twainhoard.ranges import greatest_right, greatest_slack, least_right, least_slack
from twainhoard.sharings import is_firm, is_sharing, slack
from twainhoard.webs import parties

INTERFACE = {
    "ratios": "ratio(top, bottom) plus(one, other) minus(one, other) times(one, other) over(one, other) "
              "less(one, other) is_ratio(thing)",
    "webs": "made_web(people, things) is_web(thing) parties(web) gain_of(web, party) parts(web) without(web, person)",
    "pairings": "is_pairing(web, thing) worth(web, some) pairings_of(web)",
    "sharings": "is_sharing(web, thing) slack(web, shares, party) loose(web, shares) is_firm(web, sharing)",
    "outside": "companion(sharing, person) outside(web, sharing, person)",
    "best": "best(web) all_best(web)",
    "groups": "paper_holds(web, paper) paper_sum(paper)",
    "covers": "is_double(web, thing) is_cover(web, shares) cover(web)",
    "firm": "firm(web) firm_right(web, told) gift(web)",
    "swaps": "is_swap(web, outs, ins) swap_slack(web, outs, ins)",
    "fixing": "firm_for(web, pairing) fixing_right(web, pairing, told)",
    "ranges": "least_slack(web, party) greatest_slack(web, party) least_right(web, party, told) "
              "greatest_right(web, party, told)",
    "even": "above(web, sharing, person) is_even(web, sharing) uneven(web, sharing) levelled(web, sharing, person) "
            "levelled_far(web, sharing, times)",
    "evenest": "row_of(web, shares) evenest(web) levels(web) evenest_right(web, told)",
    "deeds": "behind(web, sharing, deeds)",
    "leading": "leading(web, sharing)",
    "sides": "is_side(web, thing) two_sides(web) joined(web, side, one, other)",
    "most": "side_most(web, side) most_right(web, side, told)",
    "gains": "put_gain(web, one, other, gain) last_worth(web, person) from_gain(web, one, other) "
             "barred_gains(web, one, other)",
    "texts": "ratio_text(one) web_text(web) parties_text(some) ratios_text(some) read_ratio(thing) read_web(thing) "
             "read_parties(thing) read_ratios(thing)",
}


class InterfaceTest(unittest.TestCase):

    def test_names_and_arguments(self):
        for module, told in INTERFACE.items():
            drawn = importlib.import_module("twainhoard." + module)
            for row in told.replace(") ", ")\n").split("\n"):
                name = row.partition("(")[0]
                self.assertEqual(name + str(inspect.signature(getattr(drawn, name))), row)

    def test_desk(self):
        drawn = importlib.import_module("twainhoard.desk").Desk
        self.assertEqual(str(inspect.signature(drawn)), "()")
        self.assertEqual(str(inspect.signature(drawn().say)), "(row)")

    def test_rounds_is_there(self):
        importlib.import_module("twainhoard.rounds")


class WholeTest(unittest.TestCase):

    def test_just_one_is_told(self):
        seen = set()
        for web in named_webs() + list(mixed_webs(181, 60)):
            told = firm(web)
            self.assertIs(firm_right(web, told), True)
            self.assertEqual(gift(web) == (0, 1), told[0] == "firm")
            if told[0] == "firm":
                self.check_firm(web, told)
            else:
                self.check_barred(web, told)
            seen.add(told[0])
        self.assertEqual(seen, {"firm", "barred"})

    def check_firm(self, web, told):
        word, pairing, shares = told
        evenest_told = evenest(web)
        for each in all_best(web)[:12]:
            self.assertTrue(is_sharing(web, (each, shares)) and is_firm(web, (each, shares)))
            self.assertTrue(is_even(web, (each, evenest_told[1])))
            self.assertIs(fixing_right(web, each, firm_for(web, each)), True)
        self.assertIs(evenest_right(web, evenest_told), True)
        self.assertEqual([one for one, some in levels(web) for party in some], row_of(web, evenest_told[1]))
        for party in parties(web)[::4]:
            low, high = least_slack(web, party), greatest_slack(web, party)
            self.assertTrue(least_right(web, party, low) and greatest_right(web, party, high))
            here = as_fraction(slack(web, evenest_told[1], party))
            self.assertTrue(as_fraction(low[0]) <= here <= as_fraction(high[0]))
        deeds = leading(web, all_alone(web))
        self.assertLessEqual(len(deeds), web[0] // 2 * 3)
        self.assertTrue(is_firm(web, behind(web, all_alone(web), deeds)))

    def check_barred(self, web, told):
        word, double, pairing, paper = told
        self.assertTrue(is_double(web, double) and worth(web, double) > 2 * most_worth(web))
        self.assertTrue(paper_holds(web, paper) and paper_sum(paper) == (most_worth(web), 1))
        for each in pairings_of(web)[::60]:
            self.assertEqual(firm_for(web, each)[0], "barred")
        for ask in (evenest, levels, lambda web: leading(web, all_alone(web)), lambda web: least_slack(web, (0,))):
            self.assertRaises(Barred, ask, web)

    def test_what_is_missing_is_the_gift(self):
        for web in named_webs() + list(mixed_webs(182, 60)):
            shares, double = cover(web)
            self.assertTrue(is_cover(web, shares) and is_double(web, double))
            together = sum(as_fraction(share) for share in shares)
            self.assertEqual(2 * together, worth(web, double))
            self.assertEqual(together - most_worth(web), as_fraction(gift(web)))
            self.assertEqual(worth(web, best(web)[0]), most_worth(web))


if __name__ == "__main__":
    unittest.main()
