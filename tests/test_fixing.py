"""Promise 16: a pairing told firm, with shares, or barred, with a swap."""

import copy
import fractions
import random
import unittest

from tests.samples import (
    MOST_GAIN, SIXTY, Unruly, all_ties, as_fraction, as_ratio, half_covers, is_plain, mixed_webs, most_worth,
    named_webs, odd_things, ring, small_webs, some_webs, web_of,
)
from tests.test_swaps import is_swap_by_counting
from twainhoard.best import all_best
from twainhoard.firm import firm
from twainhoard.fixing import firm_for, fixing_right
from twainhoard.pairings import pairings_of, worth
from twainhoard.sharings import is_firm, is_sharing
from twainhoard.webs import parties

PATH = (4, ((0, 1, 5), (1, 2, 7), (2, 3, 1)))
BEST = ((0,), (1, 2), (3,))
OTHER = ((0, 1), (2, 3))
FIRM = ("firm", ((0, 1), (6, 1), (1, 1), (0, 1)))
BARRED = ("barred", ((0,), (1, 2), (3,)), ((0, 1), (2, 3)))


class FirmForTest(unittest.TestCase):

    def check(self, web, pairing):
        told = firm_for(web, pairing)
        self.assertIs(type(told), tuple)
        self.assertTrue(is_plain(told))
        if told[0] == "firm":
            word, shares = told
            self.assertTrue(is_sharing(web, (pairing, shares)), (web, pairing))
            self.assertTrue(is_firm(web, (pairing, shares)), (web, pairing))
            self.assertLess(max(max(abs(top), bottom) for top, bottom in shares), 10 ** 60)
        else:
            word, outs, ins = told
            self.assertEqual(word, "barred")
            self.assertTrue(is_swap_by_counting(outs, ins), (web, pairing))
            self.assertLessEqual(set(ins), set(pairing))
            self.assertLessEqual(set(outs), set(parties(web)))
            self.assertGreater(worth(web, outs), worth(web, ins))
            self.assertLessEqual(max(len(outs), len(ins)), 100)
        self.assertIs(fixing_right(web, pairing, told), True)
        return told[0]

    def check_all(self, web, step=1):
        barred, best = firm(web)[0] == "barred", all_best(web)
        some = pairings_of(web)[::step]
        for pairing in some + [pairing for pairing in best[::9] if pairing not in some]:
            expected = "barred" if barred or pairing not in best else "firm"
            self.assertEqual(self.check(web, pairing), expected, (web, pairing))

    def test_written_out(self):
        self.assertEqual(firm_for((1, ()), ((0,),)), ("firm", ((0, 1),)))
        self.assertEqual(firm_for(PATH, BEST)[0], "firm")
        self.assertEqual(firm_for(PATH, OTHER)[0], "barred")
        told = firm_for((2, ((0, 1, 9),)), ((0,), (1,)))
        self.assertEqual(told, ("barred", ((0, 1), (0, 1)), ((0,), (0,), (1,), (1,))))

    def test_every_pairing_of_small_webs(self):
        for people, most in ((2, 3), (3, 3)):
            for web in small_webs(people, most):
                self.check_all(web)
        for at, web in enumerate(small_webs(4, 2)):
            if at % 7 == 0:
                self.check_all(web)

    def test_just_one_of_both_is_there(self):
        for web in small_webs(3, 2):
            covers = list(half_covers(web))
            for pairing in pairings_of(web):
                there = any(self.shared_out(web, pairing, shares) for shares in covers)
                self.assertEqual(self.check(web, pairing), "firm" if there else "barred")

    def shared_out(self, web, pairing, shares):
        return all(sum(shares[person] for person in party) == worth(web, (party,)) for party in pairing)

    def test_shapes(self):
        for web in named_webs():
            self.check_all(web, 1 if web[0] < 7 else 5)

    def test_webs_of_every_size(self):
        for web in some_webs() + list(mixed_webs(61, 120)):
            self.check_all(web, 1 if web[0] < 6 else 23)

    def test_gains_at_the_bound(self):
        self.check_all(web_of(8, [tie[:2] + (MOST_GAIN,) for tie in all_ties(8)]), 11)
        self.check_all(web_of(7, [tie[:2] + (MOST_GAIN,) for tie in all_ties(7)]), 11)
        self.check_all(web_of(8, all_ties(8, MOST_GAIN - 27)), 11)

    def test_handed_in_stays(self):
        for web in named_webs():
            for pairing in pairings_of(web)[::31]:
                kept = copy.deepcopy((web, pairing))
                told = firm_for(web, pairing)
                kept_told = copy.deepcopy(told)
                fixing_right(web, pairing, told)
                self.assertEqual(firm_for(web, pairing), told)
                self.assertEqual((web, pairing, told), kept + (kept_told,))


class FirmToldTest(unittest.TestCase):

    def test_written_out(self):
        self.assertIs(fixing_right(PATH, BEST, FIRM), True)
        hair = fractions.Fraction(1, SIXTY)
        for share in (5, fractions.Fraction(11, 2), 6, 6 - hair, 4, 7, 6 + hair, 5 - hair, 8, -1):
            shares = ((0, 1), as_ratio(share), as_ratio(7 - share), (0, 1))
            self.assertIs(fixing_right(PATH, BEST, ("firm", shares)), 5 <= share <= 6)

    def test_of_another_pairing_or_web(self):
        self.assertIs(fixing_right(PATH, OTHER, FIRM), False)
        self.assertIs(fixing_right(PATH, ((0,), (1,), (2,), (3,)), FIRM), False)
        self.assertIs(fixing_right((4, ((0, 1, 5), (1, 2, 8), (2, 3, 1))), BEST, FIRM), False)
        self.assertIs(fixing_right((4, ((0, 1, 5), (1, 2, 7), (2, 3, 2))), BEST, FIRM), False)
        self.assertIs(fixing_right((4, ((0, 1, 5), (2, 3, 1))), BEST, FIRM), False)
        self.assertIs(fixing_right((4, ((0, 1, 6), (1, 2, 7))), BEST, FIRM), True)

    def test_shares_of_other_counts(self):
        for shares in ((), FIRM[1][:3], FIRM[1] + ((0, 1),), FIRM[1] * 25):
            self.assertIs(fixing_right(PATH, BEST, ("firm", shares)), False)

    def test_a_share_spoilt(self):
        for web in named_webs() + list(mixed_webs(62, 80)):
            for pairing in all_best(web)[:3]:
                told = firm_for(web, pairing)
                if told[0] == "firm":
                    for person, share in enumerate(told[1]):
                        for change in (-1, 1, fractions.Fraction(1, SIXTY), -fractions.Fraction(1, SIXTY)):
                            other = as_ratio(as_fraction(share) + change)
                            shares = told[1][:person] + (other,) + told[1][person + 1:]
                            self.assertIs(fixing_right(web, pairing, ("firm", shares)), False)


class BarredToldTest(unittest.TestCase):

    def test_written_out(self):
        self.assertIs(fixing_right(PATH, OTHER, BARRED), True)
        self.assertIs(fixing_right(PATH, OTHER, ("barred", ((0,), (1, 2), (3,)) + (), ((0, 1), (2, 3)))), True)
        twice = tuple(sorted(BARRED[1] * 2)), tuple(sorted(BARRED[2] * 2))
        self.assertIs(fixing_right(PATH, OTHER, ("barred",) + twice), True)
        beside = tuple(sorted(BARRED[1] + ((0, 1),))), tuple(sorted(BARRED[2] + ((0, 1),)))
        self.assertIs(fixing_right(PATH, OTHER, ("barred",) + beside), True)
        most = tuple(sorted(BARRED[1] * 33)), tuple(sorted(BARRED[2] * 33))
        self.assertIs(fixing_right(PATH, OTHER, ("barred",) + most), True)

    def test_what_is_no_swap(self):
        for outs, ins in (
            (((1, 2), (0,), (3,)), BARRED[2]), (BARRED[1], ((2, 3), (0, 1))), (((0,), (1, 2)), BARRED[2]),
            (BARRED[1] + ((3,),), BARRED[2]), (BARRED[1], ((0, 1),)), (BARRED[1], BARRED[2] + ((2, 3),)),
            (((1, 2), (1, 2)), BARRED[2]), (((1, 2),), ()), (BARRED[1], ()), ((), BARRED[2]), (((0, 1),) * 100, ()),
        ):
            self.assertIs(fixing_right(PATH, OTHER, ("barred", outs, ins)), False)

    def test_outs_that_are_not_worth_more(self):
        self.assertIs(fixing_right(PATH, BEST, ("barred", ((0, 1), (2, 3)), ((0,), (1, 2), (3,)))), False)
        self.assertIs(fixing_right(PATH, OTHER, ("barred", OTHER, OTHER)), False)
        self.assertIs(fixing_right(PATH, OTHER, ("barred", (), ())), False)
        web = (4, ((0, 1, 6), (1, 2, 7), (2, 3, 1)))
        self.assertIs(fixing_right(web, OTHER, BARRED), False)

    def test_ins_that_are_not_of_the_pairing(self):
        self.assertIs(fixing_right(PATH, BEST, BARRED), False)
        self.assertIs(fixing_right(PATH, ((0, 1), (2,), (3,)), BARRED), False)
        self.assertIs(fixing_right(PATH, OTHER, ("barred", ((0, 1),), ((0,), (1,)))), False)
        self.assertIs(fixing_right(PATH, ((0,), (1,), (2, 3)), ("barred", ((0, 1),), ((0,), (1,)))), True)

    def test_of_another_web(self):
        self.assertIs(fixing_right((4, ((0, 1, 5), (1, 2, 5), (2, 3, 1))), OTHER, BARRED), False)
        self.assertIs(fixing_right((4, ((0, 1, 5), (2, 3, 1))), OTHER, BARRED), False)
        self.assertIs(fixing_right((4, ((0, 1, 5), (1, 2, 7))), OTHER, BARRED), False)
        self.assertIs(fixing_right((5, PATH[1]), OTHER, BARRED), False)

    def test_spoilt_in_one_place(self):
        """Whatever is exchanged: what the judge lets by bars the pairing, by counting."""
        chance, seen = random.Random(63), set()
        for web in named_webs() + list(mixed_webs(64, 80)):
            all_parties = parties(web)
            for pairing in pairings_of(web)[::13]:
                told = firm_for(web, pairing)
                if told[0] == "firm":
                    continue
                for place in (1, 2):
                    row = list(told[place])
                    row[chance.randrange(len(row))] = chance.choice(all_parties)
                    changed = told[:place] + (tuple(sorted(row)),) + told[place + 1:]
                    word, outs, ins = changed
                    expected = is_swap_by_counting(outs, ins) and set(ins) <= set(pairing)
                    expected = expected and worth(web, outs) > worth(web, ins)
                    self.assertIs(fixing_right(web, pairing, changed), expected)
                    seen.add(expected)
                    self.assertIs(fixing_right(web, pairing, ("barred", told[2], told[1])), False)
        self.assertEqual(seen, {True, False})

    def test_round_bars_each_pairing(self):
        web = web_of(3, ring(3, (2,)))
        outs, ins = ((0, 1), (0, 2), (1, 2)), ((0,), (0,), (1, 2), (1, 2))
        self.assertIs(fixing_right(web, ((0,), (1, 2)), ("barred", outs, ins)), True)
        self.assertIs(fixing_right(web, ((0, 1), (2,)), ("barred", outs, ins)), False)
        self.assertIs(fixing_right(web, ((0, 1), (2,)), ("barred", outs, ((0, 1), (0, 1), (2,), (2,)))), True)


class OtherFormsTest(unittest.TestCase):

    def test_words_and_counts(self):
        for told in (
            (), ("firm",), FIRM + ((),), ("barred",) + FIRM[1:], list(FIRM), ("firm", list(FIRM[1])), ("f",) + FIRM[1:],
            ("firm", None), ("firm", Unruly()), (Unruly(), FIRM[1]), FIRM[1],
        ):
            self.assertIs(fixing_right(PATH, BEST, told), False)
        for told in (
            ("barred",), BARRED[:2], BARRED + ((),), ("firm",) + BARRED[1:], list(BARRED), ("b",) + BARRED[1:],
            ("barred", list(BARRED[1]), BARRED[2]), ("barred", BARRED[1], list(BARRED[2])),
            ("barred", Unruly(), BARRED[2]), ("barred", BARRED[1], Unruly()), (Unruly(),) + BARRED[1:],
        ):
            self.assertIs(fixing_right(PATH, OTHER, told), False)

    def test_things_of_every_kind(self):
        for thing in odd_things():
            self.assertIs(fixing_right(PATH, BEST, thing), False)
            self.assertIs(fixing_right(PATH, BEST, ("firm", thing)), False)
            self.assertIs(fixing_right(PATH, OTHER, ("barred", thing, thing)), False)
            self.assertIs(fixing_right(PATH, thing, BARRED), False)

    def test_what_is_no_pairing(self):
        for pairing in (((2, 3), (0, 1)), ((0, 1),), ((0, 1), (2, 3), (3,)), ((0, 1), (1, 2), (2, 3))):
            self.assertIs(fixing_right(PATH, pairing, BARRED), False)
            self.assertIs(fixing_right(PATH, pairing, FIRM), False)


if __name__ == "__main__":
    unittest.main()
