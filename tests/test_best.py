"""Promises 8 and 11: best pairings, and papers of groups with just their worth."""

import copy
import random
import unittest

from tests.samples import (
    MOST_GAIN, all_ties, as_fraction, is_plain, mixed_webs, most_worth, named_webs, ring, small_webs, some_webs, web_of,
)
from twainhoard.best import all_best, best
from twainhoard.groups import paper_holds, paper_sum
from twainhoard.pairings import is_pairing, pairings_of, worth


class BestCase(unittest.TestCase):

    def check(self, web):
        """The told pairing is best, and the told paper shows it by counting alone."""
        told = best(web)
        self.assertIs(type(told), tuple)
        pairing, paper = told
        self.assertTrue(is_pairing(web, pairing), web)
        most = most_worth(web)
        self.assertEqual(worth(web, pairing), most, web)
        self.check_paper(web, paper, most)
        self.assertIs(paper_holds(web, paper), True, web)
        self.assertEqual(paper_sum(paper), (most, 1), web)
        self.assertTrue(is_plain(told), web)

    def check_paper(self, web, paper, most):
        numbers, groups = paper
        self.assertEqual(len(numbers), web[0])
        self.assertGreaterEqual(min(as_fraction(number) for number in numbers), 0)
        self.assertEqual(list(groups), sorted(groups))
        self.assertEqual(len({people for people, each in groups}), len(groups))
        together = sum(as_fraction(number) for number in numbers)
        for people, each in groups:
            self.assertIn(len(people), (3, 5, 7))
            self.assertEqual(list(people), sorted(set(people)))
            self.assertLessEqual(set(people), set(range(web[0])))
            self.assertGreater(as_fraction(each), 0)
            together += as_fraction(each) * {3: 1, 5: 2, 7: 3}[len(people)]
        self.assertEqual(together, most)
        for one, other, gain in web[1]:
            both = [as_fraction(each) for people, each in groups if one in people and other in people]
            self.assertGreaterEqual(as_fraction(numbers[one]) + as_fraction(numbers[other]) + sum(both), gain)


class BestTest(BestCase):

    def test_written_out(self):
        self.assertEqual(best((1, ())), (((0,),), (((0, 1),), ())))
        self.assertEqual(best((2, ((0, 1, 7),)))[0], ((0, 1),))
        self.assertEqual(best((4, ((0, 1, 2), (1, 2, 5), (2, 3, 2))))[0], ((0,), (1, 2), (3,)))
        self.assertEqual(best((4, ((0, 1, 3), (1, 2, 5), (2, 3, 3))))[0], ((0, 1), (2, 3)))
        web = web_of(3, ring(3, (4,)))
        self.assertEqual(best(web)[1], (((0, 1),) * 3, (((0, 1, 2), (4, 1)),)))

    def test_one_person_and_without_ties(self):
        for people in range(1, 9):
            web = (people, ())
            self.check(web)
            alone = tuple((person,) for person in range(people))
            self.assertEqual(best(web), (alone, (((0, 1),) * people, ())))

    def test_with_all_ties(self):
        for people in range(2, 9):
            for gain in (1, 2, MOST_GAIN):
                self.check(web_of(people, [tie[:2] + (gain,) for tie in all_ties(people)]))
            self.check(web_of(people, all_ties(people)))
            self.check(web_of(people, all_ties(people, MOST_GAIN - 27)))

    def test_rings(self):
        for many in (3, 5, 7):
            for gains in ((1,), (1, 2), (3, 3, 2), (MOST_GAIN,), (MOST_GAIN, MOST_GAIN - 1), (1, MOST_GAIN)):
                web = web_of(many, ring(many, gains))
                self.check(web)
                self.check(web_of(8, ring(many, gains, 8 - many)))
            self.assertEqual(paper_sum(best(web_of(many, ring(many, (6,))))[1]), (many // 2 * 6, 1))

    def test_between_two_sides(self):
        chance = random.Random(21)
        for many in range(1, 8):
            for most in (1, 4, MOST_GAIN):
                ties = [(one, other, chance.randint(1, most)) for one in range(many) for other in range(many, 8)]
                self.check(web_of(8, ties))

    def test_in_parts(self):
        for first in range(1, 8):
            ties = all_ties(first, 3) + [(8 - 1 - other, 8 - 1 - one, gain) for one, other, gain in all_ties(8 - first)]
            self.check(web_of(8, ties))

    def test_groups_within_groups(self):
        sizes = set()
        for web in named_webs():
            self.check(web)
            sizes.add(tuple(sorted(len(people) for people, each in best(web)[1][1])))
        self.assertLessEqual({(), (3,), (5,), (7,), (3, 3), (3, 7), (3, 5, 7)}, sizes)

    def test_all_small_webs(self):
        for people, most in ((2, 3), (3, 4), (4, 2)):
            for web in small_webs(people, most):
                self.check(web)

    def test_webs_of_every_size(self):
        for web in some_webs():
            self.check(web)
        for web in mixed_webs(22, 250):
            self.check(web)

    def test_all_five_alike_or_not(self):
        for at, web in enumerate(small_webs(5, 2)):
            if at % 97 == 0:
                self.check(web)


class AllBestTest(unittest.TestCase):

    def test_written_out(self):
        self.assertEqual(all_best((1, ())), [((0,),)])
        self.assertEqual(all_best((2, ((0, 1, 1),))), [((0, 1),)])
        web = web_of(3, ring(3, (4,)))
        self.assertEqual(all_best(web), [((0,), (1, 2)), ((0, 1), (2,)), ((0, 2), (1,))])
        web = (4, ((0, 1, 2), (1, 2, 4), (2, 3, 2)))
        self.assertEqual(all_best(web), [((0,), (1, 2), (3,)), ((0, 1), (2, 3))])

    def test_all_of_them_and_nothing_else(self):
        for web in some_webs() + named_webs() + list(mixed_webs(23, 100)):
            most = most_worth(web)
            told = all_best(web)
            self.assertIs(type(told), list)
            self.assertEqual(told, [pairing for pairing in pairings_of(web) if worth(web, pairing) == most])
            self.assertEqual(told, sorted(set(told)))
            self.assertIn(best(web)[0], told)

    def test_gains_alike(self):
        counts = {2: 1, 3: 3, 4: 3, 5: 15, 6: 15, 7: 105, 8: 105}
        for people, many in counts.items():
            web = web_of(people, [tie[:2] + (MOST_GAIN,) for tie in all_ties(people)])
            self.assertEqual(len(all_best(web)), many)

    def test_by_one_alone(self):
        web = (4, ((0, 1, MOST_GAIN - 1), (0, 2, MOST_GAIN), (1, 3, MOST_GAIN), (2, 3, MOST_GAIN)))
        self.assertEqual(all_best(web), [((0, 2), (1, 3))])


class OwnTest(unittest.TestCase):

    def test_handed_in_stays_and_told_is_the_askers(self):
        for web in named_webs():
            kept = copy.deepcopy(web)
            first, many = best(web), all_best(web)
            again = list(many)
            many.clear()
            many.append("spoilt")
            self.assertEqual(all_best(web), again)
            self.assertEqual(best(web), first)
            self.assertEqual(web, kept)


if __name__ == "__main__":
    unittest.main()
