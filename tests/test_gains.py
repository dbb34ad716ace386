"""Promises 27, 28 and 29: last worths, the gain from which two tie, the gains at which a web is barred."""

import copy
import itertools
import random
import unittest

from tests.samples import (
    MOST_GAIN, SIXTY, all_ties, as_fraction, firm_webs, is_plain, mixed_webs, most_worth, named_webs, odd_things, ring,
    small_webs, some_webs, web_of,
)
from tests.test_sides import all_sides, sided_webs
from twainhoard.best import all_best
from twainhoard.errors import Alone, NoPerson
from twainhoard.firm import firm, gift
from twainhoard.gains import barred_gains, from_gain, last_worth, put_gain
from twainhoard.pairings import pairings_of, worth
from twainhoard.ranges import greatest_slack
from twainhoard.webs import is_web

PATH = (4, ((0, 1, 5), (1, 2, 7), (2, 3, 1)))
ROUND = web_of(3, ring(3, (2,)))
WITH_TWO = (lambda web, one, other: put_gain(web, one, other, 3), from_gain, barred_gains)


def put(web, two, gain):
    """The web with two people, the lesser first, put to a gain of whatever size."""
    return web_of(web[0], [tie for tie in web[1] if tie[:2] != two] + ([two + (gain,)] if gain else []))


def twos_of(web):
    return list(itertools.combinations(range(web[0]), 2))


def is_barred(web, two, gain):
    return firm(put(web, two, gain))[0] == "barred"


class PutGainTest(unittest.TestCase):

    def test_written_out(self):
        self.assertEqual(put_gain(PATH, 0, 1, 9), (4, ((0, 1, 9), (1, 2, 7), (2, 3, 1))))
        self.assertEqual(put_gain(PATH, 1, 0, 9), (4, ((0, 1, 9), (1, 2, 7), (2, 3, 1))))
        self.assertEqual(put_gain(PATH, 3, 0, 9), (4, ((0, 1, 5), (0, 3, 9), (1, 2, 7), (2, 3, 1))))
        self.assertEqual(put_gain(PATH, 2, 1, 0), (4, ((0, 1, 5), (2, 3, 1))))
        self.assertEqual(put_gain(PATH, 3, 1, 0), PATH)
        self.assertEqual(put_gain(PATH, 2, 1, 7), PATH)
        self.assertEqual(put_gain((2, ()), 1, 0, MOST_GAIN), (2, ((0, 1, MOST_GAIN),)))
        self.assertEqual(put_gain((2, ((0, 1, 1),)), 0, 1, 0), (2, ()))

    def test_every_two(self):
        for web in named_webs() + some_webs():
            for one, other in twos_of(web):
                for gain in (0, 1, 5, MOST_GAIN):
                    expected = put(web, (one, other), gain)
                    told = put_gain(web, one, other, gain)
                    self.assertEqual(told, expected)
                    self.assertEqual(put_gain(web, other, one, gain), expected)
                    self.assertTrue(is_web(told) and is_plain(told))


class LastWorthTest(unittest.TestCase):

    def test_written_out(self):
        self.assertEqual([last_worth(PATH, person) for person in range(4)], [0, 6, 2, 0])
        self.assertEqual([last_worth(ROUND, person) for person in range(3)], [0, 0, 0])
        self.assertEqual(last_worth((1, ()), 0), 0)
        self.assertEqual(last_worth((2, ((0, 1, MOST_GAIN),)), 1), MOST_GAIN)

    def test_by_all_pairings(self):
        for web in named_webs() + some_webs() + list(mixed_webs(151, 60)):
            for person in range(web[0]):
                alone = max(worth(web, pairing) for pairing in pairings_of(web) if (person,) in pairing)
                self.assertEqual(last_worth(web, person), most_worth(web) - alone)

    def test_no_firm_sharing_leaves_more(self):
        less = 0
        for web in firm_webs(named_webs() + list(mixed_webs(152, 60))):
            sided = bool(all_sides(web))
            for person in range(web[0]):
                most, last = as_fraction(greatest_slack(web, (person,))[0]), last_worth(web, person)
                self.assertLessEqual(most, last)
                less += most < last
                if sided:
                    self.assertEqual(most, last)
        self.assertGreater(less, 0)
        for web in sided_webs(153, 30):
            for person in range(web[0]):
                self.assertEqual(greatest_slack(web, (person,))[0], (last_worth(web, person), 1))

    def test_no_person(self):
        for web in (PATH, ROUND, (1, ())):
            for thing in odd_things() + [web[0], -1, True, False, "0", (0,), [0], None, SIXTY]:
                self.assertRaises(NoPerson, last_worth, web, thing)


class FromGainTest(unittest.TestCase):

    def test_written_out(self):
        self.assertEqual(from_gain(PATH, 0, 1), 6)
        self.assertEqual(from_gain(PATH, 1, 2), 6)
        self.assertEqual(from_gain(PATH, 2, 3), 2)
        self.assertEqual(from_gain(PATH, 0, 3), 0)
        self.assertEqual(from_gain(PATH, 3, 1), 7)
        self.assertEqual(from_gain((2, ()), 0, 1), 0)
        self.assertEqual(from_gain((2, ((0, 1, 9),)), 1, 0), 0)

    def check(self, web, two):
        told = from_gain(web, two[0], two[1])
        self.assertIs(type(told), int)
        self.assertEqual(told, from_gain(web, two[1], two[0]))
        self.assertGreaterEqual(told, 0)
        for gain in sorted({0, 1, told - 2, told - 1, told, told + 1, told + 2, 3 * told, told + MOST_GAIN}):
            if gain >= 0:
                best = all_best(put(web, two, gain))
                held = [two in pairing for pairing in best]
                if gain > told:
                    self.assertTrue(all(held), (web, two, gain))
                elif gain == told and gain > 0:
                    self.assertTrue(any(held), (web, two, gain))
                    self.assertFalse(all(held), (web, two, gain))
                else:
                    self.assertFalse(any(held), (web, two, gain))

    def test_just_there(self):
        chance = random.Random(154)
        for web in named_webs() + some_webs() + list(mixed_webs(155, 40)):
            twos = twos_of(web)
            for two in chance.sample(twos, min(2, len(twos))):
                self.check(web, two)

    def test_all_small_webs(self):
        for web in list(small_webs(3, 2)) + list(small_webs(4, 1)):
            for two in twos_of(web):
                self.check(web, two)

    def test_what_they_gain_together_does_not_count(self):
        for web in named_webs():
            for two in twos_of(web)[::5]:
                for gain in (0, 3, MOST_GAIN):
                    self.assertEqual(from_gain(put(web, two, gain), *two), from_gain(web, *two))


class BarredGainsTest(unittest.TestCase):

    def check(self, web, two):
        told = barred_gains(web, two[0], two[1])
        self.assertEqual(told, barred_gains(web, two[1], two[0]))
        if told is None:
            turn = from_gain(web, *two)
            for gain in (0, 1, 2, turn - 1, turn, turn + 1, 2 * turn, MOST_GAIN, 9 * MOST_GAIN):
                self.assertFalse(gain >= 0 and is_barred(web, two, gain), (web, two, gain))
            return "none"
        self.assertIs(type(told), tuple)
        first, last = told
        for gain in (first // 2, first - 2, first - 1, first):
            if gain >= 0:
                self.assertEqual(is_barred(web, two, gain), gain == first, (web, two, gain))
        if last is None:
            for gain in (first + 1, first + 7, MOST_GAIN + first, 9 * MOST_GAIN + first, 99 * MOST_GAIN):
                self.assertTrue(is_barred(web, two, gain), (web, two, gain))
            return "on"
        for gain, expected in ((last, True), (last + 1, False), (last + 2, False), (2 * last + 2, False)):
            self.assertEqual(is_barred(web, two, gain), expected, (web, two, gain))
        self.assertTrue(is_barred(web, two, (first + last) // 2))
        return "between"

    def test_written_out(self):
        self.assertEqual(barred_gains(ROUND, 0, 1), (1, 3))
        self.assertIsNone(barred_gains(web_of(3, [(0, 1, 4)]), 0, 1))
        self.assertIsNone(barred_gains((2, ()), 0, 1))
        self.assertIsNone(barred_gains(PATH, 0, 1))
        self.assertEqual(barred_gains(web_of(3, [(0, 1, 5), (1, 2, 7)]), 2, 0), (3, 11))
        self.assertEqual(barred_gains(web_of(5, ring(3, (2,))), 3, 4), (0, None))
        self.assertEqual(barred_gains(web_of(4, ring(3, (2,))), 0, 3), (0, 0))
        self.assertEqual(barred_gains(web_of(3, [(0, 1, 1), (1, 2, 1)]), 0, 2), (1, 1))
        self.assertIsNone(barred_gains((8, ()), 3, 7))

    def test_from_a_first_one_on(self):
        web = web_of(5, ring(3, (10,)) + [(0, 3, 12), (1, 4, 12)])
        first, last = barred_gains(web, 3, 4)
        self.assertIsNone(last)
        self.assertGreater(first, 0)
        self.check(web, (3, 4))

    def test_above_the_bound_of_gains(self):
        web = web_of(3, [(0, 1, MOST_GAIN), (1, 2, MOST_GAIN)])
        self.assertEqual(barred_gains(web, 0, 2), (1, 2 * MOST_GAIN - 1))
        self.check(web, (0, 2))
        web = web_of(4, [(0, 1, MOST_GAIN), (0, 2, MOST_GAIN - 1), (1, 3, MOST_GAIN)])
        self.check(web, (1, 2))

    def test_gain_by_gain(self):
        chance, seen = random.Random(156), set()
        some = list(small_webs(3, 2)) + list(small_webs(4, 2))[::23]
        for time in range(40):
            people = chance.randint(4, 7)
            kept = [two for two in itertools.combinations(range(people), 2) if chance.randrange(3)]
            some.append((people, tuple(two + (chance.randint(1, 4),) for two in kept)))
        for web in some:
            two = chance.choice(twos_of(web))
            barred = [gain for gain in range(24) if is_barred(web, two, gain)]
            told = barred_gains(web, *two)
            if told is None:
                self.assertEqual(barred, [])
            else:
                first, last = told
                self.assertEqual(barred, list(range(first, 24 if last is None else last + 1)), (web, two))
            seen.add(self.check(web, two))
        self.assertEqual(seen, {"none", "on", "between"})

    def test_webs_of_every_size(self):
        chance, seen = random.Random(157), set()
        for web in named_webs() + some_webs() + list(mixed_webs(158, 60)):
            twos = twos_of(web)
            for two in chance.sample(twos, min(2, len(twos))):
                seen.add(self.check(web, two))
        self.assertEqual(seen, {"none", "on", "between"})

    def test_gift_tells_the_same(self):
        for web in list(mixed_webs(159, 20)):
            for two in twos_of(web)[::9]:
                told = barred_gains(web, *two)
                for gain in (0, 1, 5, 40):
                    within = told is not None and told[0] <= gain and (told[1] is None or gain <= told[1])
                    self.assertEqual(gift(put(web, two, gain)) != (0, 1), within)


class RefusalTest(unittest.TestCase):

    def test_no_person(self):
        for ask in WITH_TWO:
            for web in (PATH, ROUND, (1, ())):
                for thing in odd_things() + [web[0], -1, True, False, "0", (0,), [0], None, SIXTY]:
                    self.assertRaises(NoPerson, ask, web, thing, 0)
                    self.assertRaises(NoPerson, ask, web, 0, thing)
                    self.assertRaises(NoPerson, ask, web, thing, thing)

    def test_alone(self):
        for ask in WITH_TWO:
            for web in (PATH, ROUND, (1, ()), (8, tuple(all_ties(8)))):
                for person in range(web[0]):
                    self.assertRaises(Alone, ask, web, person, person)

    def test_no_person_goes_first(self):
        for ask in WITH_TWO:
            self.assertRaises(NoPerson, ask, PATH, 4, 4)
            self.assertRaises(NoPerson, ask, PATH, True, True)
            self.assertRaises(NoPerson, ask, PATH, 1, True)


class OwnTest(unittest.TestCase):

    def test_handed_in_stays(self):
        for web in named_webs()[::3]:
            for two in twos_of(web)[::7]:
                kept = copy.deepcopy(web)
                for ask in WITH_TWO:
                    self.assertEqual(ask(web, *two), ask(copy.deepcopy(web), *two))
                last_worth(web, 0)
                self.assertEqual(web, kept)


if __name__ == "__main__":
    unittest.main()
