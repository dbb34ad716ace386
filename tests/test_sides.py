"""Promises 24 and 26: sides, rounds where there are none, and shares joined by a side."""

import copy
import itertools
import random
import unittest

from tests.samples import (
    MOST_GAIN, SIXTY, Unruly, all_ties, as_fraction, firm_webs, is_plain, mixed_webs, named_webs, odd_things, ring,
    small_webs, some_webs, web_of, webs_and_sharings,
)
from tests.test_even import firm_sharings
from twainhoard.errors import NoSides
from twainhoard.sharings import is_firm, is_sharing
from twainhoard.sides import is_side, joined, two_sides
from twainhoard.webs import parts

PATH = (4, ((0, 1, 5), (1, 2, 7), (2, 3, 1)))
ROUND = web_of(3, ring(3, (2,)))


def all_sides(web):
    """All sides of a web, found by trying all rows of people."""
    rows = [row for many in range(web[0] + 1) for row in itertools.combinations(range(web[0]), many)]
    return [row for row in rows if all((one in row) + (other in row) == 1 for one, other, gain in web[1])]


def sided_webs(seed, many):
    """Webs with a side: people put on two sides by chance, and some ties between these."""
    chance = random.Random(seed)
    for time in range(many):
        people, most = chance.randint(1, 8), chance.choice((2, 7, 40, MOST_GAIN))
        left = [person for person in range(people) if chance.randrange(2)]
        twos = [two for two in itertools.combinations(range(people), 2) if (two[0] in left) != (two[1] in left)]
        kept = [two for two in twos if chance.randrange(4)]
        yield (people, tuple((one, other, chance.randint(1, most)) for one, other in kept))


def is_round(web, people):
    """Whether they are three, five or seven unlike people in a round of ties."""
    tied = {tie[:2] for tie in web[1]}
    steps = zip(people, people[1:] + people[:1])
    unlike = len(set(people)) == len(people) and len(people) in (3, 5, 7)
    return unlike and all((min(step), max(step)) in tied for step in steps)


class IsSideTest(unittest.TestCase):

    def test_written_out(self):
        for thing, expected in (
            ((0, 2), True), ((1, 3), True), ((0, 3), False), ((1, 2), False), ((0,), False), ((), False), ((1,), False),
            ((0, 1, 2, 3), False), ((2, 0), False), ((0, 2, 2), False), ((0, 0, 2), False), ((0, 2, 4), False),
            ((-1, 0, 2), False), ([0, 2], False), ((False, 2), False), ((True, 3), False), ("02", False),
        ):
            self.assertIs(is_side(PATH, thing), expected, thing)

    def test_without_ties_any(self):
        for people in (1, 3, 8):
            for many in range(people + 1):
                for row in itertools.combinations(range(people), many):
                    self.assertIs(is_side((people, ()), row), True)
            for thing in ((people,), (-1,), (0, 0), (True,), (False,), [], [0]):
                self.assertIs(is_side((people, ()), thing), False)
        self.assertIs(is_side((2, ()), (1, 0)), False)

    def test_people_without_ties_on_either(self):
        web = web_of(4, [(0, 2, 3)])
        for side in all_sides(web):
            self.assertIs(is_side(web, side), True)
        self.assertEqual(len(all_sides(web)), 8)

    def test_all_rows_of_people(self):
        for web in named_webs() + some_webs() + list(sided_webs(131, 20)):
            sides = all_sides(web)
            for many in range(web[0] + 1):
                for row in itertools.combinations(range(web[0]), many):
                    self.assertIs(is_side(web, row), row in sides)

    def test_of_anything(self):
        fit = {(): [(1, ()), (3, ())]}
        for thing in odd_things() + [Unruly(), (Unruly(), 2), (0, Unruly()), {0, 2}, frozenset((0, 2)), range(0, 4, 2)]:
            for web in (PATH, ROUND, (1, ()), (3, ())):
                expected = thing == () and web in fit[()] if isinstance(thing, tuple) and len(thing) == 0 else False
                self.assertIs(is_side(web, thing), expected)


class TwoSidesTest(unittest.TestCase):

    def check(self, web):
        told = two_sides(web)
        self.assertIs(type(told), tuple)
        self.assertTrue(is_plain(told))
        word, people = told
        sides = all_sides(web)
        self.assertEqual(word, "sides" if sides else "round")
        if sides:
            self.assertIn(people, sides)
            expected = [side for side in sides if all(part[0] in side for part in parts(web))]
            self.assertEqual([people], expected)
        else:
            self.assertTrue(is_round(web, people), told)
        return word

    def test_written_out(self):
        self.assertEqual(two_sides(PATH), ("sides", (0, 2)))
        self.assertEqual(two_sides((1, ())), ("sides", (0,)))
        self.assertEqual(two_sides((3, ())), ("sides", (0, 1, 2)))
        self.assertEqual(two_sides(web_of(6, [(1, 4, 1), (2, 4, 1), (3, 5, 1)])), ("sides", (0, 1, 2, 3)))
        self.assertEqual(two_sides(web_of(5, [(0, 4, 1), (3, 4, 1), (1, 3, 1)])), ("sides", (0, 2, 3)))
        word, people = two_sides(ROUND)
        self.assertEqual((word, sorted(people)), ("round", [0, 1, 2]))

    def test_rounds_of_three_five_and_seven(self):
        chance = random.Random(132)
        for many in (3, 5, 7):
            for time in range(30):
                order = chance.sample(range(8), many)
                ties = [tuple(sorted((order[at], order[(at + 1) % many]))) + (5,) for at in range(many)]
                web = web_of(8, ties)
                word, people = two_sides(web)
                self.assertEqual((word, sorted(people)), ("round", sorted(order)))
                self.assertTrue(is_round(web, people))

    def test_a_round_behind_a_tail(self):
        self.check(web_of(8, [(0, 1, 1), (1, 2, 1), (2, 3, 1)] + ring(5, (1,), 3)))
        self.check(web_of(8, [(0, 7, 1), (6, 7, 1), (5, 6, 1), (4, 5, 1), (3, 4, 1), (3, 5, 1)]))
        self.check(web_of(8, ring(4, (1,)) + ring(4, (1,), 4) + [(0, 4, 2), (1, 4, 2)]))

    def test_even_rounds_are_no_rounds(self):
        for many in (4, 6, 8):
            self.assertEqual(two_sides(web_of(8, ring(many, (1,))))[0], "sides")

    def test_all_small_webs(self):
        for people, most in ((2, 1), (3, 1), (4, 1), (5, 1)):
            for web in small_webs(people, most):
                self.check(web)

    def test_webs_of_every_size(self):
        seen = set()
        for web in named_webs() + some_webs() + list(sided_webs(133, 60)) + list(mixed_webs(134, 100)):
            seen.add(self.check(web))
        self.assertEqual(seen, {"sides", "round"})


class JoinedTest(unittest.TestCase):

    def test_written_out(self):
        one, other = ((0, 1), (5, 1), (2, 1), (1, 3)), ((1, 2), (6, 1), (1, 1), (1, 2))
        self.assertEqual(joined(PATH, (0, 2), one, other), ((1, 2), (5, 1), (2, 1), (1, 3)))
        self.assertEqual(joined(PATH, (1, 3), one, other), ((0, 1), (6, 1), (1, 1), (1, 2)))
        self.assertEqual(joined((2, ()), (), ((1, 1), (2, 1)), ((2, 1), (1, 1))), ((1, 1), (1, 1)))
        self.assertEqual(joined((2, ()), (0, 1), ((1, 1), (2, 1)), ((2, 1), (1, 1))), ((2, 1), (2, 1)))
        self.assertEqual(joined((1, ()), (0,), ((0, 1),), ((0, 1),)), ((0, 1),))

    def test_as_fractions_have_it(self):
        chance = random.Random(135)
        for web in sided_webs(136, 80):
            side = chance.choice(all_sides(web))
            rows = []
            for time in range(2):
                tops = [chance.choice((0, chance.randint(0, 9), chance.randint(0, SIXTY))) for one in range(web[0])]
                rows.append(tuple((top, 1) if top < 5 else (7 * top + 1, 7) for top in tops))
            one, other = rows
            told = joined(web, side, one, other)
            self.assertIs(type(told), tuple)
            for person in range(web[0]):
                pick = max if person in side else min
                self.assertEqual(told[person], pick((one[person], other[person]), key=as_fraction))
            self.assertEqual(joined(web, side, other, one), told)
            self.assertEqual(joined(web, side, one, one), one)

    def test_firm_again(self):
        changed = 0
        webs = list(sided_webs(137, 80)) + [web for web in named_webs() if all_sides(web)]
        by_web = {}
        for web, sharing in firm_sharings(webs, 138):
            by_web.setdefault(web, []).append(sharing)
        for web, sharings in by_web.items():
            sides = all_sides(web)
            for one, other in itertools.combinations(sharings, 2):
                for side in sides[:4]:
                    shares = joined(web, side, one[1], other[1])
                    self.assertTrue(is_sharing(web, (one[0], shares)) and is_firm(web, (one[0], shares)))
                    changed += shares not in (one[1], other[1])
        self.assertGreater(changed, 20)

    def test_no_sides(self):
        shares = ((0, 1),) * 4
        for thing in odd_things() + [(0, 3), (2, 0), [0, 2], (0, 2, 2), (False, 2), (0,), (), Unruly(), (0, 2, 4)]:
            with self.assertRaises(NoSides):
                joined(PATH, thing, shares, shares)
        for side in [row for many in range(4) for row in itertools.combinations(range(3), many)]:
            with self.assertRaises(NoSides):
                joined(ROUND, side, shares[:3], shares[:3])


class OwnTest(unittest.TestCase):

    def test_handed_in_stays(self):
        for web in named_webs() + list(sided_webs(139, 20)):
            kept = copy.deepcopy(web)
            self.assertEqual(two_sides(web), two_sides(copy.deepcopy(web)))
            self.assertEqual(web, kept)


if __name__ == "__main__":
    unittest.main()
