"""Promise 11, of papers of groups: when one holds, and its sum."""

import copy
import fractions
import itertools
import random
import unittest

from tests.samples import MOST_GAIN, SIXTY, Unruly, all_ties, as_fraction, as_ratio, odd_things, some_webs
from twainhoard.groups import paper_holds, paper_sum
from twainhoard.pairings import pairings_of, worth

ROUND = (3, ((0, 1, 2), (0, 2, 2), (1, 2, 2)))
NOUGHTS = ((0, 1),) * 8
FULL = (8, tuple((one, other, 1) for one, other, gain in all_ties(8)))
FIVE = (0, 1, 2, 3, 4)
SEVEN = (1, 2, 3, 4, 5, 6, 7)


def random_papers(web, chance):
    """Papers of the web, some that hold and some that fall short."""
    sizes = [many for many in (3, 5, 7) if many <= web[0]]
    choices = [people for many in sizes for people in itertools.combinations(range(web[0]), many)]
    for time in range(6):
        kept = sorted(chance.sample(choices, min(len(choices), chance.randrange(4))))
        groups = tuple((people, as_ratio(fractions.Fraction(chance.randint(1, 12), 2))) for people in kept)
        numbers = tuple(as_ratio(fractions.Fraction(chance.randint(0, 10), 2)) for person in range(web[0]))
        yield (numbers, groups)


def holds_by_fractions(web, paper):
    numbers, groups = paper
    for one, other, gain in web[1]:
        have = as_fraction(numbers[one]) + as_fraction(numbers[other])
        have += sum(as_fraction(each) for people, each in groups if {one, other} <= set(people))
        if have < gain:
            return False
    return True


class HoldsTest(unittest.TestCase):

    def test_numbers_alone(self):
        self.assertIs(paper_holds(ROUND, (((1, 1), (1, 1), (1, 1)), ())), True)
        self.assertIs(paper_holds(ROUND, (((1, 1), (1, 1), (5, 1)), ())), True)
        self.assertIs(paper_holds(ROUND, (((1, 1), (1, 1), (1, 2)), ())), False)
        self.assertIs(paper_holds(ROUND, (((0, 1), (0, 1), (0, 1)), ())), False)

    def test_a_group(self):
        self.assertIs(paper_holds(ROUND, (NOUGHTS[:3], (((0, 1, 2), (2, 1)),))), True)
        self.assertIs(paper_holds(ROUND, (NOUGHTS[:3], (((0, 1, 2), (3, 2)),))), False)
        self.assertIs(paper_holds(ROUND, (((1, 2), (1, 2), (0, 1)), (((0, 1, 2), (3, 2)),))), True)

    def test_a_group_needs_both_of_the_tie(self):
        web = (4, ((0, 1, 2), (2, 3, 2)))
        self.assertIs(paper_holds(web, (NOUGHTS[:4], (((0, 1, 2), (2, 1)),))), False)
        self.assertIs(paper_holds(web, (NOUGHTS[:4], (((0, 1, 2), (2, 1)), ((1, 2, 3), (2, 1))))), True)
        three = (((0, 1, 2), (2, 1)), ((0, 2, 3), (1, 1)), ((1, 2, 3), (1, 1)))
        self.assertIs(paper_holds(web, (NOUGHTS[:4], three)), True)

    def test_short_at_one_tie(self):
        for at in range(28):
            ties = tuple(tie if place != at else tie[:2] + (2,) for place, tie in enumerate(FULL[1]))
            half = (((1, 2),) * 8, ())
            self.assertIs(paper_holds(FULL, half), True)
            self.assertIs(paper_holds((8, ties), half), False)

    def test_five_and_seven(self):
        web = (8, tuple(tie for tie in FULL[1] if tie[1] <= 4))
        self.assertIs(paper_holds(web, (NOUGHTS, ((FIVE, (1, 1)),))), True)
        self.assertIs(paper_holds(FULL, (NOUGHTS, ((FIVE, (1, 1)),))), False)
        self.assertIs(paper_holds(FULL, (((1, 1),) + NOUGHTS[1:], ((SEVEN, (1, 1)),))), True)
        self.assertIs(paper_holds(FULL, (((1, 2),) + NOUGHTS[1:], ((SEVEN, (1, 1)),))), False)

    def test_by_a_hair(self):
        web = (2, ((0, 1, 1),))
        self.assertIs(paper_holds(web, (((1, SIXTY), (SIXTY - 1, SIXTY)), ())), True)
        self.assertIs(paper_holds(web, (((1, SIXTY), (SIXTY - 2, SIXTY)), ())), False)
        most = (3, tuple(tie[:2] + (MOST_GAIN,) for tie in ROUND[1]))
        group = (0, 1, 2)
        self.assertIs(paper_holds(most, (NOUGHTS[:3], ((group, (MOST_GAIN, 1)),))), True)
        self.assertIs(paper_holds(most, (NOUGHTS[:3], ((group, (MOST_GAIN * SIXTY - 1, SIXTY)),))), False)

    def test_without_ties_and_for_one(self):
        for people in range(1, 9):
            self.assertIs(paper_holds((people, ()), (NOUGHTS[:people], ())), True)
            self.assertIs(paper_holds((people, ()), (NOUGHTS[:people - 1], ())), False)

    def test_as_fractions_have_it(self):
        chance, seen = random.Random(11), set()
        for web in some_webs():
            for paper in random_papers(web, chance):
                expected = holds_by_fractions(web, paper)
                self.assertIs(paper_holds(web, paper), expected)
                seen.add(expected)
        self.assertEqual(seen, {True, False})

    def test_no_pairing_is_worth_more_than_what_holds(self):
        chance, many = random.Random(12), 0
        for web in some_webs():
            most = max(worth(web, pairing) for pairing in pairings_of(web))
            for paper in random_papers(web, chance):
                if paper_holds(web, paper):
                    many += 1
                    self.assertGreaterEqual(as_fraction(paper_sum(paper)), most)
        self.assertGreater(many, 20)


class NoPaperTest(unittest.TestCase):

    def wrong_numbers(self):
        return [
            (), NOUGHTS[:7], NOUGHTS + ((0, 1),), ((-1, 1),) + NOUGHTS[1:], NOUGHTS[:7] + ((-1, SIXTY),),
            ((9, 1),) * 7, ((9, 1),) * 9, ((9, 1),) * 7 + ((-1, 2),),
        ]

    def wrong_groups(self):
        nine, ratio = (9, 1), (1, 1)
        return [
            (((1, 2, 3), ratio), ((0, 1, 2), ratio)), (((0, 1, 2), ratio), ((0, 1, 2), ratio)),
            (((0, 1, 2), ratio), ((0, 1, 2), nine)), (((0, 1, 2), nine), ((0, 1, 2), ratio)),
            (((0, 1, 2), ratio), ((0, 1, 2), nine), ((1, 2, 3), nine)), (((0, 1, 3), ratio), ((0, 1, 2), nine)),
            (((2, 1, 0), nine),), (((0, 2, 1), nine),), (((0, 1, 1), nine),), (((0, 0, 1), nine),),
            (((6, 7, 8), nine),), (((-1, 0, 1), nine),), (((0, 1, SIXTY), nine),), (((-SIXTY, 0, 1), nine),),
            (((0, 1, 2, 3), nine),), (((0, 1), nine),), (((0,), nine),), (((), nine),), ((tuple(range(6)), nine),),
            ((tuple(range(8)), nine),), ((tuple(range(9)), nine),), ((tuple(range(-1, 6)), nine),),
            (((0, 1, 2), (0, 1)),), (((0, 1, 2), (-1, 1)),), (((0, 1, 2), (-1, SIXTY)),),
            (((0, 1, 2), nine), ((1, 2, 3), (0, 1))), ((FIVE, nine), ((0, 1, 2), nine)),
        ]

    def test_numbers(self):
        for numbers in self.wrong_numbers():
            for web in (FULL, (8, ())):
                self.assertIs(paper_holds(web, (numbers, ())), False)
                self.assertIs(paper_holds(web, (numbers, ((SEVEN, (9, 1)),))), False)

    def test_groups(self):
        for groups in self.wrong_groups():
            for web in (FULL, (8, ())):
                self.assertIs(paper_holds(web, (((9, 1),) * 8, groups)), False, groups)

    def test_each_of_these_holds_when_mended(self):
        for groups in ((), (((0, 1, 2), (1, 1)), ((1, 2, 3), (1, 1))), ((FIVE, (1, 1)), ((0, 1, 4), (9, 1)))):
            self.assertIs(paper_holds(FULL, (((9, 1),) * 8, groups)), True)
        self.assertIs(paper_holds((7, ()), (NOUGHTS[:7], ((tuple(range(7)), (1, SIXTY)),))), True)

    def test_beyond_a_smaller_web(self):
        for people in range(3, 8):
            numbers = ((9, 1),) * people
            inside, beyond = (0, 1, people - 1), (0, 1, people)
            self.assertIs(paper_holds((people, ()), (numbers, ((beyond, (1, 1)),))), False)
            self.assertIs(paper_holds((people, ()), (numbers, ((inside, (1, 1)),))), True)

    def test_other_kinds(self):
        nines, group = ((9, 1),) * 8, ((0, 1, 2), (1, 1))
        wrong = [
            [nines, ()], (list(nines), ()), (nines, [group]), (nines, (list(group),)), (nines, (([0, 1, 2], (1, 1)),)),
            (nines, (((0, 1, 2), [1, 1]),)), (nines, (((0, 1, 2), (2, 2)),)), (((18, 2),) * 8, ()),
            (nines, (((False, 1, 2), (1, 1)),)), (nines, (((0, True, 2), (1, 1)),)), (nines,), (nines, (), ()),
            (nines, (group + ((1, 1),),)), ((), nines), (nines, group), (nines, (Unruly(),)), (Unruly(), ()),
            (nines, (((0, 1, Unruly()), (1, 1)),)), (nines, (((0, 1, 2), Unruly()),)),
        ]
        for paper in wrong + odd_things():
            self.assertIs(paper_holds((8, ()), paper), False)


class SumTest(unittest.TestCase):

    def test_each_size(self):
        self.assertEqual(paper_sum((NOUGHTS, ())), (0, 1))
        self.assertEqual(paper_sum((((1, 2), (1, 3), (1, 6)), ())), (1, 1))
        self.assertEqual(paper_sum((NOUGHTS, (((0, 1, 2), (5, 3)),))), (5, 3))
        self.assertEqual(paper_sum((NOUGHTS, ((FIVE, (5, 3)),))), (10, 3))
        self.assertEqual(paper_sum((NOUGHTS, ((SEVEN, (5, 3)),))), (5, 1))

    def test_all_together(self):
        groups = (((0, 1, 2), (1, 2)), (FIVE, (1, 3)), (SEVEN, (1, 5)))
        numbers = ((1, 1), (1, 30)) + NOUGHTS[2:]
        expected = 1 + fractions.Fraction(1, 30) + fractions.Fraction(1, 2) + fractions.Fraction(2, 3)
        self.assertEqual(paper_sum((numbers, groups)), as_ratio(expected + fractions.Fraction(3, 5)))

    def test_sixty_figures(self):
        groups = (((0, 1, 2), (1, SIXTY)), (FIVE, (SIXTY - 1, SIXTY)))
        expected = fractions.Fraction(1, SIXTY) + 2 * fractions.Fraction(SIXTY - 1, SIXTY) + SIXTY
        self.assertEqual(paper_sum((((SIXTY, 1),) + NOUGHTS[1:], groups)), as_ratio(expected))

    def test_short_papers_have_a_sum_too(self):
        self.assertEqual(paper_sum((((1, 2),), ())), (1, 2))

    def test_handed_in_stays(self):
        paper = (((1, 2),) * 8, (((0, 1, 2), (1, 2)), (FIVE, (1, 3))))
        kept = copy.deepcopy(paper)
        self.assertEqual(paper_sum(paper), paper_sum(paper))
        self.assertEqual(paper_holds(FULL, paper), paper_holds(FULL, paper))
        self.assertEqual(paper, kept)


if __name__ == "__main__":
    unittest.main()
