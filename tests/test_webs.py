"""Promises 6 and 7: webs, parties and parts."""

import copy
import itertools
import random
import unittest

from tests.samples import MOST_GAIN, SameAsAll, Unruly, all_ties, odd_things, some_webs
from twainhoard.errors import NoParty, NoPerson, NoWeb, Twice
from twainhoard.webs import gain_of, is_web, made_web, parties, parts, without

WRONG_TRIPLES = (
    (0, 1), (0, 1, 5, 6), (), [0, 1, 5], "015", None, 5, {0: 1}, (0, 0, 5), (0, 3, 5), (3, 0, 5), (-1, 0, 5),
    (0, -1, 5), (0, 1, 0), (0, 1, -5), (0, 1, MOST_GAIN + 1), (0, 1, True), (False, 1, 5), (0, True, 5), (True, 0, 5),
    ("0", 1, 5), (0, "1", 5), (0, 1, "5"), (0, 1, None), (None, 1, 5), ((0,), 1, 5), (0, 1, (5,)), ((0, 1), 5),
    (0, 1, [5]), (0, 1, SameAsAll()), (SameAsAll(), 1, 5), (Unruly(), 1, 5), (0, Unruly(), 5), (0, 1, Unruly()),
)


class MadeWebTest(unittest.TestCase):

    def test_either_order_and_any_order(self):
        expected = (4, ((0, 1, 5), (0, 3, 2), (1, 2, 7), (2, 3, 1)))
        triples = list(expected[1])
        for order in itertools.permutations(triples):
            for turned in range(16):
                things = [
                    (other, one, gain) if turned >> at & 1 else (one, other, gain)
                    for at, (one, other, gain) in enumerate(order)
                ]
                self.assertEqual(made_web(4, things), expected)

    def test_kinds_of_what_is_told(self):
        people, ties = made_web(3, [(2, 1, 4), (0, 1, 9)])
        self.assertIs(type(people), int)
        self.assertIs(type(ties), tuple)
        self.assertEqual([type(tie) for tie in ties], [tuple, tuple])

    def test_no_ties_and_all_ties(self):
        for people in range(1, 9):
            self.assertEqual(made_web(people, []), (people, ()))
            full = all_ties(people)
            self.assertEqual(made_web(people, full[::-1]), (people, tuple(full)))
            random.Random(people).shuffle(full)
            self.assertEqual(made_web(people, full), (people, tuple(sorted(full))))

    def test_least_and_greatest_gain(self):
        self.assertEqual(made_web(2, [(1, 0, 1)]), (2, ((0, 1, 1),)))
        self.assertEqual(made_web(2, [(1, 0, MOST_GAIN)]), (2, ((0, 1, 10 ** 12),)))

    def test_no_number_of_people(self):
        for thing in [0, -1, 9, 10 ** 60, True, False, "3", (3,), [3], None] + odd_things():
            for things in ([], [(0, 1, 5)], [(0, 1, 5), (0, 1, 5)], None):
                with self.assertRaises(NoWeb):
                    made_web(thing, things)

    def test_no_list(self):
        for thing in odd_things() + [((0, 1, 5),), {(0, 1, 5)}, {(0, 1, 5): 1}, "[]", (), 0]:
            if isinstance(thing, list) and not thing:
                continue
            with self.assertRaises(NoWeb):
                made_web(3, thing)

    def test_no_triples(self):
        for wrong in WRONG_TRIPLES:
            for things in ([wrong], [(0, 1, 5), wrong], [wrong, (1, 2, 5)]):
                with self.assertRaises(NoWeb):
                    made_web(3, things)

    def test_no_web_goes_ahead_of_twice(self):
        for wrong in WRONG_TRIPLES:
            for things in ([(1, 2, 5), (2, 1, 5), wrong], [wrong, (1, 2, 5), (1, 2, 6)]):
                with self.assertRaises(NoWeb):
                    made_web(3, things)

    def test_twice(self):
        for second in ((0, 1, 5), (1, 0, 5), (0, 1, 6), (1, 0, 4)):
            for between in ([], [(0, 2, 5)], [(1, 2, 1), (2, 0, 9)]):
                with self.assertRaises(Twice):
                    made_web(3, [(0, 1, 5)] + between + [second])
        with self.assertRaises(Twice):
            made_web(8, all_ties(8) + [(7, 6, 1)])

    def test_handed_in_stays(self):
        things = [(2, 1, 4), (1, 0, 9)]
        web = made_web(3, things)
        self.assertEqual(things, [(2, 1, 4), (1, 0, 9)])
        things.append((0, 2, 1))
        things[0] = None
        self.assertEqual(web, (3, ((0, 1, 9), (1, 2, 4))))


class IsWebTest(unittest.TestCase):

    def test_webs(self):
        for web in some_webs() + [made_web(5, all_ties(5)), (1, ()), (2, ((0, 1, MOST_GAIN),))]:
            self.assertIs(is_web(web), True, web)

    def test_wrong_people(self):
        for people in [0, -1, 9, True, False, "3", None, (3,), [3]] + odd_things():
            self.assertIs(is_web((people, ())), False)

    def test_wrong_triples(self):
        for wrong in WRONG_TRIPLES + ((1, 0, 5),):
            self.assertIs(is_web((3, (wrong,))), False)
            self.assertIs(is_web((3, ((0, 2, 5), wrong))), False)

    def test_order_and_repeats(self):
        self.assertIs(is_web((3, ((0, 1, 5), (0, 2, 4), (1, 2, 3)))), True)
        for ties in itertools.permutations(((0, 1, 5), (0, 2, 4), (1, 2, 3))):
            self.assertIs(is_web((3, ties)), list(ties) == sorted(ties))
        self.assertIs(is_web((3, ((0, 1, 5), (0, 1, 5)))), False)
        self.assertIs(is_web((3, ((0, 1, 5), (0, 1, 6)))), False)
        self.assertIs(is_web((3, ((0, 1, 5), (0, 1, 6), (1, 2, 6)))), False)

    def test_other_forms(self):
        ties = ((0, 1, 5),)
        wrong = [
            [3, ties], (3, list(ties)), (3, {ties[0]}), (3,), (ties,), (3, ties, 1), (ties, 3), (3, None), (3, "ties"),
            (3, 0), (3, {}), {3: ties}, 3, ties, "web 3", (3, ((0, 1, 5), ())), (3, (0, 1, 5)), (3, ((),)),
        ]
        for thing in wrong:
            self.assertIs(is_web(thing), False)

    def test_things_of_every_kind(self):
        for thing in odd_things():
            self.assertIs(is_web(thing), False)
            self.assertIs(is_web((2, (thing,))), False)
            if not isinstance(thing, tuple) or thing:
                self.assertIs(is_web((2, thing)), False)


class PartiesTest(unittest.TestCase):

    def test_written_out(self):
        web = (3, ((0, 1, 5), (0, 2, 4)))
        self.assertEqual(parties(web), [(0,), (0, 1), (0, 2), (1,), (2,)])
        self.assertEqual(parties((1, ())), [(0,)])

    def test_rising_and_all(self):
        for web in some_webs():
            people, ties = web
            expected = {(one,) for one in range(people)} | {tie[:2] for tie in ties}
            self.assertEqual(parties(web), sorted(expected))

    def test_the_told_list_is_the_askers_own(self):
        web = (3, ((0, 1, 5),))
        told = parties(web)
        told.clear()
        self.assertEqual(parties(web), [(0,), (0, 1), (1,), (2,)])
        self.assertEqual(web, (3, ((0, 1, 5),)))


class GainOfTest(unittest.TestCase):

    def test_gains(self):
        for web in some_webs():
            people, ties = web
            for one in range(people):
                self.assertEqual(gain_of(web, (one,)), 0)
            for one, other, gain in ties:
                self.assertEqual(gain_of(web, (one, other)), gain)

    def test_no_party(self):
        web = (4, ((0, 1, 5), (1, 2, MOST_GAIN)))
        wrong = [
            (0, 2), (1, 0), (2, 1), (3, 3), (4,), (-1,), (0, 4), (0, 1, 2), (0, 1, 5), (), [0], [0, 1], 0, "0",
            (True,), (False,), (False, True), (0, True), (False, 1), ((0, 1),), {0}, {0, 1},
        ]
        for thing in wrong + odd_things():
            with self.assertRaises(NoParty):
                gain_of(web, thing)


class PartsTest(unittest.TestCase):

    def test_written_out(self):
        web = (8, ((0, 5, 1), (1, 3, 1), (3, 7, 1), (5, 6, 1)))
        self.assertEqual(parts(web), [(0, 5, 6), (1, 3, 7), (2,), (4,)])

    def test_none_and_all(self):
        for people in range(1, 9):
            self.assertEqual(parts((people, ())), [(one,) for one in range(people)])
            self.assertEqual(parts((people, tuple(all_ties(people)))), [tuple(range(people))])

    def test_long_chains(self):
        for order in itertools.islice(itertools.permutations(range(6)), 0, 720, 7):
            chain = [tuple(sorted(two)) + (1,) for two in zip(order, order[1:])]
            self.assertEqual(parts((6, tuple(sorted(chain)))), [(0, 1, 2, 3, 4, 5)])

    def test_by_walking(self):
        for web in some_webs():
            expected = {tuple(sorted(self.reached(web, one))) for one in range(web[0])}
            self.assertEqual(parts(web), sorted(expected))

    def reached(self, web, start):
        found = {start}
        for step in range(web[0]):
            for one, other, gain in web[1]:
                if one in found or other in found:
                    found.update((one, other))
        return found

    def test_the_told_list_is_the_askers_own(self):
        web = (3, ((0, 1, 5),))
        parts(web).append(None)
        self.assertEqual(parts(web), [(0, 1), (2,)])


class WithoutTest(unittest.TestCase):

    def test_ties_go_and_the_person_stays(self):
        web = (4, ((0, 1, 5), (0, 2, 3), (1, 2, 7), (2, 3, 1)))
        self.assertEqual(without(web, 0), (4, ((1, 2, 7), (2, 3, 1))))
        self.assertEqual(without(web, 2), (4, ((0, 1, 5),)))
        self.assertEqual(without(web, 3), (4, ((0, 1, 5), (0, 2, 3), (1, 2, 7))))
        self.assertEqual(web, (4, ((0, 1, 5), (0, 2, 3), (1, 2, 7), (2, 3, 1))))

    def test_gain_like_the_person_stays(self):
        self.assertEqual(without((4, ((0, 1, 3), (2, 3, 5))), 3), (4, ((0, 1, 3),)))

    def test_all_webs(self):
        for web in some_webs():
            for person in range(web[0]):
                told = without(web, person)
                self.assertTrue(is_web(told))
                kept = [tie for tie in web[1] if tie[0] != person and tie[1] != person]
                self.assertEqual(told, (web[0], tuple(kept)))

    def test_no_person(self):
        for web in ((1, ()), (3, ((0, 1, 5),)), (8, tuple(all_ties(8)))):
            for thing in [web[0], -1, "0", (0,), [0], None, True, False] + odd_things():
                with self.assertRaises(NoPerson):
                    without(web, thing)


class SameAnswerTest(unittest.TestCase):

    def test_asked_again(self):
        for web in some_webs():
            kept = copy.deepcopy(web)
            for asked in (parties, parts, is_web):
                self.assertEqual(asked(web), asked(kept))
            self.assertEqual(web, kept)


if __name__ == "__main__":
    unittest.main()
