"""Promise 8: pairings and worth."""

import copy
import itertools
import unittest

from tests.samples import MOST_GAIN, SameAsAll, Unruly, all_ties, odd_things, some_webs
from twainhoard.pairings import is_pairing, pairings_of, worth
from twainhoard.webs import parties

WEB = (4, ((0, 1, 5), (0, 2, 3), (1, 2, 7), (2, 3, 1)))

# How many ways so many people, all tied, can be paired or left alone.
ALL_TIED = {1: 1, 2: 2, 3: 4, 4: 10, 5: 26, 6: 76, 7: 232, 8: 764}


class IsPairingTest(unittest.TestCase):

    def test_pairings(self):
        for thing in (((0,), (1,), (2,), (3,)), ((0, 1), (2, 3)), ((0, 2), (1,), (3,)), ((0,), (1, 2), (3,))):
            self.assertIs(is_pairing(WEB, thing), True)

    def test_some_web_by_trying_all(self):
        choices = parties(WEB)
        for many in range(6):
            for thing in itertools.product(choices, repeat=many):
                held = [person for party in thing for person in party]
                expected = list(thing) == sorted(thing) and sorted(held) == [0, 1, 2, 3]
                self.assertIs(is_pairing(WEB, thing), expected)

    def test_wrong_ones(self):
        wrong = [
            (), ((0, 1),), ((0, 1), (2,)), ((0, 1), (2,), (3,), (3,)), ((0, 1), (1, 2), (3,)), ((2, 3), (0, 1)),
            ((0, 1), (3,), (2,)), ((0, 1), (0, 1), (2, 3)), ((0, 3), (1, 2)), ((1, 0), (2, 3)), ((0, 1), (3, 2)),
            ((0, 1), (2,), (3,), (4,)), ((-1,), (0, 1), (2, 3)), [(0, 1), (2, 3)], ([0, 1], (2, 3)), ([0, 1], [2, 3]),
            ((0, 1), 2, 3), (0, 1, 2, 3), ((0, 1, 2, 3),), ((0, 1), (2, 3), ()), ((False, True), (2, 3)),
            ((0, True), (2, 3)), ((False,), (True,), (2,), (3,)), {(0, 1), (2, 3)}, {(0, 1): 5, (2, 3): 1}, "0-1 2-3",
            ("01", "23"), ((0, 1), None), (SameAsAll(), (2, 3)), ((0, 1), (2, SameAsAll())), ((0, 1), Unruly()),
            ((0, 1), (Unruly(), 3)), (((0, 1), (2, 3)),), None, 0,
        ]
        for thing in wrong + odd_things():
            self.assertIs(is_pairing(WEB, thing), False)

    def test_one_person(self):
        self.assertIs(is_pairing((1, ()), ((0,),)), True)
        for thing in [(), ((0,), (0,)), ((1,),), (0,), [(0,)], ((False,),)] + odd_things():
            self.assertIs(is_pairing((1, ()), thing), False)

    def test_handed_in_stays(self):
        thing = [(0, 1), (2, 3)]
        self.assertIs(is_pairing(WEB, thing), False)
        self.assertEqual(thing, [(0, 1), (2, 3)])


class WorthTest(unittest.TestCase):

    def test_none(self):
        self.assertEqual(worth(WEB, ()), 0)
        self.assertEqual(worth(WEB, []), 0)

    def test_tuples_and_lists(self):
        for some, expected in (
            (((0, 1), (2, 3)), 6), (((0,), (1, 2), (3,)), 7), (((0,),), 0), (((1, 2),), 7), (((2, 3), (0, 1), (3,)), 6),
        ):
            self.assertEqual(worth(WEB, some), expected)
            self.assertEqual(worth(WEB, list(some)), expected)

    def test_repeats_count_each_time(self):
        self.assertEqual(worth(WEB, ((0, 1), (0, 1))), 10)
        self.assertEqual(worth(WEB, [(1, 2), (0,), (1, 2), (0,), (2, 3), (1, 2)]), 22)
        self.assertEqual(worth((2, ((0, 1, MOST_GAIN),)), [(0, 1)] * 100), 10 ** 14)

    def test_handed_in_stays(self):
        some = [(2, 3), (0, 1), (0, 1)]
        self.assertEqual(worth(WEB, some), worth(WEB, some))
        self.assertEqual(some, [(2, 3), (0, 1), (0, 1)])


class PairingsOfTest(unittest.TestCase):

    def test_written_out(self):
        self.assertEqual(pairings_of((1, ())), [((0,),)])
        self.assertEqual(pairings_of((2, ((0, 1, 5),))), [((0,), (1,)), ((0, 1),)])
        self.assertEqual(pairings_of(WEB), [
            ((0,), (1,), (2,), (3,)), ((0,), (1,), (2, 3)), ((0,), (1, 2), (3,)),
            ((0, 1), (2,), (3,)), ((0, 1), (2, 3)), ((0, 2), (1,), (3,)),
        ])

    def test_without_ties(self):
        for people in range(1, 9):
            self.assertEqual(pairings_of((people, ())), [tuple((one,) for one in range(people))])

    def test_all_tied(self):
        for people, many in ALL_TIED.items():
            web = (people, tuple(all_ties(people)))
            told = pairings_of(web)
            self.assertEqual(len(told), many)
            self.assertTrue(all(is_pairing(web, pairing) for pairing in told))

    def test_rising_and_no_list_but_one(self):
        for web in some_webs():
            told = pairings_of(web)
            self.assertIs(type(told), list)
            self.assertTrue(all(one < other for one, other in zip(told, told[1:])))
            self.assertTrue(all(type(pairing) is tuple for pairing in told))

    def test_all_of_them(self):
        for web in some_webs():
            if web[0] > 5:
                continue
            choices = parties(web)
            expected = [
                some for many in range(1, web[0] + 1) for some in itertools.combinations(choices, many)
                if sorted(person for party in some for person in party) == list(range(web[0]))
            ]
            self.assertEqual(pairings_of(web), sorted(expected))

    def test_the_told_list_is_the_askers_own(self):
        kept = copy.deepcopy(WEB)
        first = pairings_of(WEB)
        first.clear()
        second = pairings_of(WEB)
        self.assertEqual(len(second), 6)
        second.reverse()
        self.assertEqual(pairings_of(WEB), second[::-1])
        self.assertEqual(WEB, kept)


if __name__ == "__main__":
    unittest.main()
