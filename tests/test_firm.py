"""Promises 4, 13 and 14: firm or barred, the judge of both, and the gift."""

import copy
import fractions
import itertools
import random
import unittest

from tests.samples import (
    MOST_GAIN, SIXTY, Unruly, all_ties, as_fraction, as_ratio, half_covers, is_plain, mixed_webs, most_worth,
    named_webs, odd_things, ring, small_webs, some_webs, web_of,
)
from twainhoard.best import all_best, best
from twainhoard.covers import cover, is_cover, is_double
from twainhoard.firm import firm, firm_right, gift
from twainhoard.groups import paper_holds, paper_sum
from twainhoard.pairings import is_pairing, pairings_of, worth
from twainhoard.ratios import ratio
from twainhoard.sharings import is_firm, is_sharing
from twainhoard.webs import parties, parts

PATH = (4, ((0, 1, 5), (1, 2, 7), (2, 3, 1)))
FIRM = ("firm", ((0,), (1, 2), (3,)), ((0, 1), (6, 1), (1, 1), (0, 1)))
ROUND = web_of(3, ring(3, (2,)))
BARRED = ("barred", ((0, 1), (0, 2), (1, 2)), ((0, 1), (2,)), (((0, 1),) * 3, (((0, 1, 2), (2, 1)),)))


def many_webs():
    return named_webs() + some_webs() + list(mixed_webs(41, 250))


class FirmTest(unittest.TestCase):

    def check(self, web):
        told = firm(web)
        self.assertIs(type(told), tuple)
        self.assertTrue(is_plain(told))
        most = most_worth(web)
        if told[0] == "firm":
            word, pairing, shares = told
            self.assertTrue(is_sharing(web, (pairing, shares)), web)
            self.assertTrue(is_firm(web, (pairing, shares)), web)
            self.assertEqual(sum(as_fraction(share) for share in shares), most)
        else:
            word, double, pairing, paper = told
            self.assertEqual(word, "barred")
            self.assertTrue(is_double(web, double), web)
            self.assertTrue(is_pairing(web, pairing), web)
            self.assertEqual(worth(web, pairing), most)
            self.assertGreater(worth(web, double), 2 * most)
            self.assertTrue(paper_holds(web, paper), web)
            self.assertEqual(paper_sum(paper), (most, 1))
        self.assertIs(firm_right(web, told), True, web)
        return told[0]

    def test_written_out(self):
        self.assertEqual(firm((1, ())), ("firm", ((0,),), ((0, 1),)))
        self.assertEqual(firm((3, ()))[:2], ("firm", ((0,), (1,), (2,))))
        self.assertEqual(firm(PATH)[:2], ("firm", ((0,), (1, 2), (3,))))
        told = firm(ROUND)
        self.assertEqual(told[:2], ("barred", ((0, 1), (0, 2), (1, 2))))

    def test_of_every_web(self):
        seen = [self.check(web) for web in many_webs()]
        self.assertGreater(seen.count("firm"), 100)
        self.assertGreater(seen.count("barred"), 50)

    def test_rings(self):
        for many in range(3, 9):
            expected = "barred" if many % 2 else "firm"
            for gain in (1, MOST_GAIN):
                self.assertEqual(self.check(web_of(many, ring(many, (gain,)))), expected)
        self.assertEqual(self.check(web_of(3, [(0, 1, 2), (0, 2, 1), (1, 2, 1)])), "firm")
        self.assertEqual(self.check(web_of(3, [(0, 1, MOST_GAIN), (0, 2, 1), (1, 2, MOST_GAIN - 1)])), "firm")
        self.assertEqual(self.check(web_of(3, [(0, 1, MOST_GAIN), (0, 2, 2), (1, 2, MOST_GAIN - 1)])), "barred")

    def test_gains_at_the_bound(self):
        for people in range(1, 9):
            expected = "barred" if people % 2 and people > 1 else "firm"
            self.assertEqual(self.check(web_of(people, [tie[:2] + (MOST_GAIN,) for tie in all_ties(people)])), expected)

    def test_just_one_of_both_is_there(self):
        for people, most in ((2, 3), (3, 3)):
            for web in small_webs(people, most):
                there = any(sum(shares) == most_worth(web) for shares in half_covers(web))
                self.assertEqual(self.check(web), "firm" if there else "barred")

    def test_shares_are_firm_with_every_best_pairing(self):
        for web in many_webs():
            told = firm(web)
            if told[0] == "firm":
                for pairing in all_best(web):
                    self.assertTrue(is_sharing(web, (pairing, told[2])))
                    self.assertIs(firm_right(web, ("firm", pairing, told[2])), True)

    def test_handed_in_stays(self):
        for web in named_webs():
            kept = copy.deepcopy(web)
            self.assertEqual(firm(web), firm(web))
            self.assertEqual(gift(web), gift(web))
            told = firm(web)
            kept_told = copy.deepcopy(told)
            firm_right(web, told)
            self.assertEqual((web, told), (kept, kept_told))


class FirmToldRightTest(unittest.TestCase):

    def test_written_out(self):
        self.assertIs(firm_right(PATH, FIRM), True)
        for first in (0, fractions.Fraction(1, 2), fractions.Fraction(1, SIXTY), 1):
            shares = ((0, 1), as_ratio(7 - first), as_ratio(first), (0, 1))
            self.assertIs(firm_right(PATH, ("firm", FIRM[1], shares)), first == 1)
        for first in (5, fractions.Fraction(11, 2), 6, 5 + fractions.Fraction(1, SIXTY)):
            shares = ((0, 1), as_ratio(first), as_ratio(7 - first), (0, 1))
            self.assertIs(firm_right(PATH, ("firm", FIRM[1], shares)), True)

    def test_a_share_less_or_more(self):
        for web in many_webs():
            told = firm(web)
            if told[0] == "firm":
                for person, share in enumerate(told[2]):
                    for change in (-1, 1, fractions.Fraction(1, SIXTY), -fractions.Fraction(1, 2)):
                        other = as_ratio(as_fraction(share) + change)
                        shares = told[2][:person] + (other,) + told[2][person + 1:]
                        self.assertIs(firm_right(web, ("firm", told[1], shares)), False)

    def test_another_pairing(self):
        for web in many_webs():
            told = firm(web)
            if told[0] == "firm":
                right = all_best(web)
                for pairing in pairings_of(web)[::7]:
                    self.assertIs(firm_right(web, ("firm", pairing, told[2])), pairing in right)

    def test_what_is_no_pairing(self):
        shares = FIRM[2]
        for pairing in (
            ((1, 2), (0,), (3,)), ((0,), (1, 2)), ((0,), (1, 2), (3,), (3,)), ((0,), (0,), (1, 2), (3,)), (),
            ((0,), (1,), (1, 2), (3,)), ((0,), (1, 2), (2, 3)), ((1, 2),), ((0,), (1, 2), (3,)) * 2, ((0,),) * 100,
        ):
            self.assertIs(firm_right(PATH, ("firm", pairing, shares)), False)

    def test_shares_of_other_counts(self):
        for shares in ((), FIRM[2][:3], FIRM[2] + ((0, 1),), FIRM[2] * 25, ((0, 1),) * 4):
            self.assertIs(firm_right(PATH, ("firm", FIRM[1], shares)), False)

    def test_below_nought(self):
        web = (2, ((0, 1, 5),))
        self.assertIs(firm_right(web, ("firm", ((0, 1),), ((5, 1), (0, 1)))), True)
        self.assertIs(firm_right(web, ("firm", ((0, 1),), ((6, 1), (-1, 1)))), False)
        self.assertIs(firm_right(web, ("firm", ((0, 1),), ((-1, 1), (6, 1)))), False)

    def test_of_another_web(self):
        self.assertIs(firm_right((4, ((0, 1, 5), (1, 2, 8), (2, 3, 1))), FIRM), False)
        self.assertIs(firm_right((4, ((0, 1, 7), (1, 2, 7), (2, 3, 1))), FIRM), False)
        self.assertIs(firm_right((4, ((0, 1, 5), (2, 3, 1))), FIRM), False)
        self.assertIs(firm_right((5, PATH[1]), FIRM), False)
        self.assertIs(firm_right((3, PATH[1][:2]), FIRM), False)
        self.assertIs(firm_right((4, ((0, 1, 6), (1, 2, 7), (2, 3, 1))), FIRM), True)


class BarredToldRightTest(unittest.TestCase):

    def told(self, **changed):
        whole = dict(zip(("word", "double", "pairing", "paper"), BARRED))
        whole.update(changed)
        return tuple(whole.values())

    def test_written_out(self):
        self.assertIs(firm_right(ROUND, BARRED), True)
        for pairing in (((0,), (1, 2)), ((0, 1), (2,)), ((0, 2), (1,))):
            self.assertIs(firm_right(ROUND, self.told(pairing=pairing)), True)

    def test_another_paper(self):
        half, noughts, group = ((1, 2),) * 3, ((0, 1),) * 3, (0, 1, 2)
        self.assertIs(firm_right(ROUND, self.told(paper=(noughts, ((group, (2, 1)),)))), True)
        wrong = [
            # Those that don't hold, then those of another sum, then those that are none.
            (((1, 1), (1, 1), (0, 1)), ()), (((2, 1), (0, 1), (0, 1)), ()), (half, ()), (noughts, ()),
            (((1, 2), (1, 2), (0, 1)), ((group, (1, 1)),)), (noughts, ((group, (1, 1)),)),
            (noughts, ((group, (3, 1)),)), (((1, 1),) * 3, ()), (((2, 1),) * 3, ()), (half, ((group, (1, 1)),)),
            (noughts, ((group, (2, 1)), (group, (2, 1)))), (noughts[:2], ((group, (2, 1)),)), ((), ()),
            (noughts + ((0, 1),), ((group, (2, 1)),)), (noughts, (((0, 2, 1), (2, 1)),)),
            (noughts, (((0, 1, 3), (2, 1)),)), (noughts, (((0, 1), (2, 1)),)),
            (((-1, 1), (0, 1), (0, 1)), ((group, (3, 1)),)),
        ]
        for paper in wrong:
            self.assertIs(firm_right(ROUND, self.told(paper=paper)), False, paper)

    def test_another_double(self):
        for double in (
            ((0, 1), (0, 1), (2,), (2,)), ((0, 2), (0, 1), (1, 2)), ((0, 1), (0, 2)), (), ((0, 1),) * 100,
            ((0, 1), (0, 2), (1, 2), (1, 2)), ((0,), (0, 1), (1, 2), (2,)), ((0, 1), (0, 2), (1, 2)) * 2,
            ((0, 1), (0, 1), (0, 2), (1, 2)),
        ):
            self.assertIs(firm_right(ROUND, self.told(double=double)), False, double)

    def test_another_pairing(self):
        for pairing in (
            ((0,), (1,), (2,)), ((2,), (0, 1)), ((0, 1),), ((0, 1), (2,), (2,)), ((0, 1), (1, 2)), (), ((0, 1), (0, 1)),
            ((0, 1), (0, 2), (1, 2)),
        ):
            self.assertIs(firm_right(ROUND, self.told(pairing=pairing)), False, pairing)

    def test_a_double_must_be_worth_more_than_twice(self):
        web = web_of(4, [(0, 1, 2), (0, 2, 1), (1, 2, 1)])
        noughts = ((0, 1),) * 4
        told = ("barred", ((0, 1), (0, 2), (1, 2), (3,), (3,)), ((0, 1), (2,), (3,)), (noughts, (((0, 1, 2), (2, 1)),)))
        self.assertIs(firm_right(web, told), False)
        told = ("barred", ((0, 1), (0, 1), (2,), (2,), (3,), (3,)), told[2], told[3])
        self.assertIs(firm_right(web, told), False)

    def test_the_pairing_must_be_best(self):
        web = web_of(5, ring(3, (2,)) + [(3, 4, 5)])
        double, noughts = ((0, 1), (0, 2), (1, 2), (3, 4), (3, 4)), ((0, 1),) * 5
        low = ((0, 1), (2,), (3,), (4,))
        group = (((0, 1, 2), (2, 1)),)
        self.assertIs(firm_right(web, ("barred", double, low, (noughts, group))), False)
        full = (noughts[:3] + ((5, 1), (0, 1)), group)
        self.assertIs(firm_right(web, ("barred", double, low, full)), False)
        self.assertIs(firm_right(web, ("barred", double, ((0, 1), (2,), (3, 4)), full)), True)

    def test_of_another_web(self):
        for web in (
            web_of(3, ring(3, (1,))), web_of(3, ring(3, (3,))), web_of(3, [(0, 1, 2), (0, 2, 2)]), (3, ()),
            (2, ((0, 1, 2),)), web_of(4, ring(3, (2,))), web_of(3, [(0, 1, 2), (0, 2, 3), (1, 2, 2)]),
        ):
            self.assertIs(firm_right(web, BARRED), False)
        self.assertIs(firm_right(web_of(3, [(0, 1, 2), (0, 2, 1), (1, 2, 2)]), BARRED), True)

    def test_told_of_one_web_asked_of_another(self):
        webs = [web for web in mixed_webs(42, 60) if len(web[1]) > 2]
        seen = set()
        for web, other in zip(webs, webs[1:] + webs[:1]):
            same = (web[0], other[1]) if max(tie[1] for tie in other[1]) < web[0] else other
            told = firm(web)
            right = firm_right(same, told)
            self.assertIs(type(right), bool)
            if right:
                self.assertEqual(firm(same)[0], told[0])
            seen.add(right)
        self.assertIn(False, seen)

    def test_a_party_exchanged(self):
        for web in named_webs():
            told = firm(web)
            if told[0] == "barred":
                for at, party in enumerate(told[1]):
                    for other in parties(web):
                        changed = tuple(sorted(told[1][:at] + (other,) + told[1][at + 1:]))
                        self.assertIs(firm_right(web, told[:1] + (changed,) + told[2:]), other == party)


class OtherFormsTest(unittest.TestCase):

    def test_words_and_counts(self):
        for told in (
            ("firm",), ("barred",), (), FIRM[:2], FIRM + ((),), ("barred",) + FIRM[1:], ("Firm",) + FIRM[1:],
            ("",) + FIRM[1:], list(FIRM), (b"firm",) + FIRM[1:], FIRM[1:], ("firm", FIRM[2], FIRM[1]),
            ("firm", list(FIRM[1]), FIRM[2]), ("firm", FIRM[1], list(FIRM[2])), ("firm", None, None), (FIRM,),
            ("firm", Unruly(), FIRM[2]), ("firm", FIRM[1], Unruly()), (Unruly(), FIRM[1], FIRM[2]),
        ):
            self.assertIs(firm_right(PATH, told), False)
        for told in (
            BARRED[:3], BARRED + ((),), ("firm",) + BARRED[1:], ("firm",) + BARRED[1:3], list(BARRED),
            (BARRED[0], BARRED[2], BARRED[1], BARRED[3]), BARRED[:3] + (None,), ("barred", Unruly()) + BARRED[2:],
            ("barred", list(BARRED[1])) + BARRED[2:], BARRED[:2] + (Unruly(), BARRED[3]), BARRED[:3] + (Unruly(),),
        ):
            self.assertIs(firm_right(ROUND, told), False)

    def test_things_of_every_kind(self):
        for thing in odd_things():
            for web in (PATH, ROUND, (1, ())):
                self.assertIs(firm_right(web, thing), False)
                self.assertIs(firm_right(web, ("firm", thing, thing)), False)
                self.assertIs(firm_right(web, ("barred", thing, thing, thing)), False)

    def test_whatever_stands_in_them(self):
        """What the judge lets by is so, whatever parties and ratios chance has put there."""
        chance, seen = random.Random(43), set()
        for web in small_webs(3, 2):
            all_parties, pairings = parties(web), pairings_of(web)
            for time in range(100):
                some = tuple(chance.choice(all_parties) for at in range(chance.randint(1, 3)))
                some = some if time % 2 else chance.choice(pairings)
                shares = tuple(ratio(chance.randint(-1, 4), 2) for person in range(3))
                right = firm_right(web, ("firm", tuple(sorted(some)), shares))
                if right:
                    self.assertTrue(is_cover(web, shares))
                    self.assertEqual(sum(as_fraction(share) for share in shares), most_worth(web))
                seen.add(right)
        self.assertEqual(seen, {True, False})


class GiftTest(unittest.TestCase):

    def test_written_out(self):
        self.assertEqual(gift((1, ())), (0, 1))
        self.assertEqual(gift(PATH), (0, 1))
        self.assertEqual(gift(ROUND), (1, 1))
        self.assertEqual(gift(web_of(3, ring(3, (1,)))), (1, 2))
        self.assertEqual(gift(web_of(5, ring(5, (MOST_GAIN,)))), (MOST_GAIN // 2, 1))
        self.assertEqual(gift(web_of(7, ring(7, (3,)))), (3, 2))
        self.assertEqual(gift(web_of(6, ring(3, (1,)) + ring(3, (3,), 3))), (2, 1))

    def test_least_of_all_covers(self):
        for people, most in ((2, 3), (3, 3)):
            for web in small_webs(people, most):
                least = min(sum(shares) for shares in half_covers(web))
                self.assertEqual(gift(web), as_ratio(least - most_worth(web)))
        for web in itertools.islice(small_webs(4, 2), 0, None, 11):
            least = min(sum(shares) for shares in half_covers(web))
            self.assertEqual(gift(web), as_ratio(least - most_worth(web)))

    def test_of_every_web(self):
        bottoms = set()
        for web in many_webs():
            told = gift(web)
            bottoms.add(told[1])
            self.assertGreaterEqual(told[0], 0)
            self.assertEqual(told == (0, 1), firm(web)[0] == "firm")
            missing = sum(as_fraction(share) for share in cover(web)[0]) - worth(web, best(web)[0])
            self.assertEqual(told, as_ratio(missing))
        self.assertEqual(bottoms, {1, 2})

    def test_adds_up_over_parts(self):
        seen = 0
        for web in many_webs():
            together = 0
            for part in parts(web):
                alone = (web[0], tuple(tie for tie in web[1] if tie[0] in part))
                together += as_fraction(gift(alone))
                seen += together > 0
            self.assertEqual(gift(web), as_ratio(together))
        self.assertGreater(seen, 20)


if __name__ == "__main__":
    unittest.main()
