"""Promise 18: what people have above, even sharings, levelled and levelled far."""

import copy
import fractions
import random
import unittest

from tests.samples import (
    MOST_GAIN, SIXTY, all_ties, as_fraction, as_ratio, is_plain, mixed_webs, named_webs, odd_things, ring, some_webs,
    web_of, webs_and_sharings,
)
from twainhoard.best import all_best
from twainhoard.errors import Alone, Loose, NoPerson
from twainhoard.even import above, is_even, levelled, levelled_far, uneven
from twainhoard.firm import firm
from twainhoard.outside import outside
from twainhoard.ranges import greatest_slack, least_slack
from twainhoard.sharings import is_firm, is_sharing, slack
from twainhoard.webs import parties

PATH = (4, ((0, 1, 5), (1, 2, 7), (2, 3, 1)))
BEST = ((0,), (1, 2), (3,))
NOUGHT = (0, 1)
LOW = (BEST, (NOUGHT, (5, 1), (2, 1), NOUGHT))
HIGH = (BEST, (NOUGHT, (6, 1), (1, 1), NOUGHT))
MID = (BEST, (NOUGHT, (11, 2), (3, 2), NOUGHT))
LOOSE = (BEST, (NOUGHT, (4, 1), (3, 1), NOUGHT))


def pairs(sharing):
    return [party for party in sharing[0] if len(party) == 2]


def above_by_fractions(web, sharing, person):
    pairing, shares = sharing
    could = [fractions.Fraction(0)]
    for one, other, gain in web[1]:
        if (one, other) not in pairing and person in (one, other):
            could.append(gain - as_fraction(shares[one + other - person]))
    return as_fraction(shares[person]) - max(could)


def row(web, shares):
    """The slacks of all parties, the least first."""
    return sorted(as_fraction(slack(web, shares, party)) for party in parties(web))


def firm_sharings(webs, seed):
    """Pairs of a web and a firm sharing of it: at the ends of what is firm, and between these ends."""
    chance = random.Random(seed)
    for web in webs:
        told = firm(web)
        if told[0] == "firm":
            some = parties(web)
            rows = [told[2], least_slack(web, chance.choice(some))[4], greatest_slack(web, chance.choice(some))[4]]
            weights = [fractions.Fraction(chance.randint(1, 9)) for one in rows]
            mean = zip(*(tuple(as_fraction(share) for share in one) for one in rows))
            rows.append(tuple(
                as_ratio(sum(a * b for a, b in zip(weights, shares)) / sum(weights)) for shares in mean
            ))
            pairing = chance.choice(all_best(web))
            for shares in rows:
                yield web, (pairing, shares)


def many_firm_sharings(seed):
    return list(firm_sharings(named_webs() + some_webs() + list(mixed_webs(seed, 80)), seed))


class AboveTest(unittest.TestCase):

    def test_written_out(self):
        self.assertEqual([above(PATH, LOW, person) for person in range(4)], [NOUGHT, NOUGHT, (1, 1), NOUGHT])
        self.assertEqual([above(PATH, MID, person) for person in range(4)], [NOUGHT, (1, 2), (1, 2), NOUGHT])
        self.assertEqual([above(PATH, LOOSE, person) for person in range(4)], [(-1, 1), (-1, 1), (2, 1), NOUGHT])
        self.assertEqual(above((1, ()), (((0,),), (NOUGHT,)), 0), NOUGHT)

    def test_as_fractions_have_it(self):
        for web, sharing in webs_and_sharings():
            for person in range(web[0]):
                self.assertEqual(above(web, sharing, person), as_ratio(above_by_fractions(web, sharing, person)))

    def test_sixty_figures(self):
        web = (3, ((0, 1, 1), (1, 2, 1)))
        sharing = (((0, 1), (2,)), ((1, SIXTY), (SIXTY - 1, SIXTY), NOUGHT))
        self.assertEqual(above(web, sharing, 1), (-1, SIXTY))
        self.assertEqual(above(web, sharing, 2), (-1, SIXTY))

    def test_no_person(self):
        for thing in odd_things() + [4, -1, True, False, "0", (0,), [0], None]:
            for sharing in (LOW, LOOSE):
                with self.assertRaises(NoPerson):
                    above(PATH, sharing, thing)


class EvenTest(unittest.TestCase):

    def test_written_out(self):
        self.assertIs(is_even(PATH, MID), True)
        for sharing in (LOW, HIGH, LOOSE):
            self.assertIs(is_even(PATH, sharing), False)
        self.assertIs(is_even((1, ()), (((0,),), (NOUGHT,))), True)
        self.assertIs(is_even((2, ((0, 1, 9),)), (((0, 1),), ((9, 2), (9, 2)))), True)
        self.assertIs(is_even((2, ((0, 1, 9),)), (((0, 1),), ((5, 1), (4, 1)))), False)
        self.assertIs(is_even((2, ((0, 1, 9),)), (((0,), (1,)), (NOUGHT, NOUGHT))), False)

    def test_as_much_above_but_not_firm(self):
        halves = (((0, 1), (2,)), ((1, 1), (1, 1), NOUGHT))
        web = web_of(3, [(0, 1, 2), (0, 2, 3), (1, 2, 3)])
        self.assertEqual(uneven(web, halves), [])
        self.assertIs(is_firm(web, halves), False)
        self.assertIs(is_even(web, halves), False)

    def test_as_fractions_have_it(self):
        seen = set()
        for web, sharing in webs_and_sharings() + many_firm_sharings(81):
            apart = [
                (one, other) for one, other in pairs(sharing)
                if above_by_fractions(web, sharing, one) != above_by_fractions(web, sharing, other)
            ]
            told = uneven(web, sharing)
            self.assertIs(type(told), list)
            self.assertEqual(told, apart)
            self.assertIs(is_even(web, sharing), is_firm(web, sharing) and not apart)
            seen.add((is_firm(web, sharing), bool(apart)))
        self.assertEqual(len(seen), 4)

    def test_uneven_of_any_sharing(self):
        self.assertEqual(uneven(PATH, LOW), [(1, 2)])
        self.assertEqual(uneven(PATH, LOOSE), [(1, 2)])
        self.assertEqual(uneven(PATH, MID), [])
        self.assertEqual(uneven((2, ((0, 1, 9),)), (((0,), (1,)), (NOUGHT, NOUGHT))), [])
        web = web_of(4, [(0, 1, 2), (2, 3, 2)])
        shares = ((2, 1), NOUGHT, NOUGHT, (2, 1))
        self.assertEqual(uneven(web, (((0, 1), (2, 3)), shares)), [(0, 1), (2, 3)])

    def test_by_a_hair(self):
        web = (2, ((0, 1, 1),))
        sharing = (((0, 1),), ((SIXTY // 2, SIXTY), (SIXTY - SIXTY // 2, SIXTY)))
        self.assertEqual(uneven(web, sharing), [(0, 1)])
        self.assertIs(is_even(web, sharing), False)


class LevelledTest(unittest.TestCase):

    def test_written_out(self):
        for sharing in (LOW, HIGH, MID):
            for person in (1, 2):
                self.assertEqual(levelled(PATH, sharing, person), MID)
        shares = levelled((2, ((0, 1, 9),)), (((0, 1),), ((9, 1), NOUGHT)), 0)
        self.assertEqual(shares, (((0, 1),), ((9, 2), (9, 2))))

    def test_as_promised(self):
        changed = 0
        for web, sharing in many_firm_sharings(82):
            for pair in pairs(sharing):
                told = levelled(web, sharing, pair[0])
                self.assertEqual(told, levelled(web, sharing, pair[1]))
                self.assertEqual(told[0], sharing[0])
                self.assertTrue(is_plain(told) and is_sharing(web, told))
                self.assertIs(is_firm(web, told), True)
                others = [person for person in range(web[0]) if person not in pair]
                self.assertEqual([told[1][other] for other in others], [sharing[1][other] for other in others])
                self.assertEqual(*(above_by_fractions(web, told, person) for person in pair))
                if pair in uneven(web, sharing):
                    self.assertGreater(row(web, told[1]), row(web, sharing[1]))
                    changed += 1
                else:
                    self.assertEqual(told, sharing)
        self.assertGreater(changed, 100)

    def test_no_person_goes_first(self):
        for thing in odd_things() + [4, -1, True, False, "0", (0,), [0], None]:
            for sharing in (LOW, LOOSE, (((0,), (1,), (2,), (3,)), (NOUGHT,) * 4)):
                with self.assertRaises(NoPerson):
                    levelled(PATH, sharing, thing)

    def test_loose_goes_ahead_of_alone(self):
        for person in range(4):
            for sharing in (LOOSE, (((0,), (1,), (2,), (3,)), (NOUGHT,) * 4)):
                with self.assertRaises(Loose):
                    levelled(PATH, sharing, person)

    def test_alone(self):
        for person in (0, 3):
            with self.assertRaises(Alone):
                levelled(PATH, LOW, person)
        with self.assertRaises(Alone):
            levelled((1, ()), (((0,),), (NOUGHT,)), 0)

    def test_loose_just_where_it_is_not_firm(self):
        for web, sharing in webs_and_sharings():
            for person in range(web[0]):
                alone = (person,) in sharing[0]
                if not is_firm(web, sharing):
                    self.assertRaises(Loose, levelled, web, sharing, person)
                elif alone:
                    self.assertRaises(Alone, levelled, web, sharing, person)
                else:
                    self.assertTrue(is_firm(web, levelled(web, sharing, person)))

    def test_sixty_figures(self):
        web = (2, ((0, 1, 1),))
        self.assertEqual(levelled(web, (((0, 1),), ((1, SIXTY), (SIXTY - 1, SIXTY))), 0)[1], ((1, 2), (1, 2)))
        web = (4, ((0, 1, 1), (1, 2, 1), (2, 3, 1)))
        share = ((1, SIXTY), (SIXTY - 1, SIXTY))
        told = levelled(web, (((0, 1), (2, 3)), share + share[::-1]), 0)
        self.assertEqual(told[1], ((SIXTY - (SIXTY - 1) // 2 - 1, SIXTY), ((SIXTY + 1) // 2, SIXTY)) + share[::-1])


class LevelledFarTest(unittest.TestCase):

    def once(self, web, sharing):
        """Levelled at the pair whose two differ most above, of several the first, by fractions alone."""
        apart = []
        for pair in pairs(sharing):
            one, other = (above_by_fractions(web, sharing, person) for person in pair)
            apart.append((-abs(one - other), pair))
        if not apart or not min(apart)[0]:
            return sharing
        one, other = min(apart)[1]
        gain = as_fraction(sharing[1][one]) + as_fraction(sharing[1][other])
        could = as_fraction(outside(web, sharing, one)) - as_fraction(outside(web, sharing, other))
        shares = list(sharing[1])
        shares[one], shares[other] = as_ratio((gain + could) / 2), as_ratio((gain - could) / 2)
        return (sharing[0], tuple(shares))

    def test_each_time_at_the_widest(self):
        for web, sharing in many_firm_sharings(83)[::3]:
            expected = sharing
            for times in range(7):
                told = levelled_far(web, sharing, times)
                self.assertEqual(told, expected)
                self.assertTrue(is_sharing(web, told) and is_firm(web, told))
                expected = self.once(web, expected)

    def test_twenty_times(self):
        for web, sharing in many_firm_sharings(84)[::7]:
            expected = sharing
            for time in range(20):
                expected = self.once(web, expected)
            self.assertEqual(levelled_far(web, sharing, 20), expected)
            self.assertEqual(levelled_far(web, levelled_far(web, sharing, 11), 9), expected)
            self.assertTrue(is_plain(expected))

    def test_of_several_the_first(self):
        web = web_of(4, [(0, 3, 6), (1, 2, 6)])
        shares = ((6, 1), NOUGHT, (6, 1), NOUGHT)
        sharing = (((0, 3), (1, 2)), shares)
        self.assertEqual(levelled_far(web, sharing, 1)[1], ((3, 1), NOUGHT, (6, 1), (3, 1)))
        self.assertEqual(levelled_far(web, sharing, 2)[1], ((3, 1),) * 4)
        self.assertEqual(levelled_far(web, sharing, 20)[1], ((3, 1),) * 4)

    def test_either_way(self):
        web = web_of(4, [(0, 1, 6), (2, 3, 9)])
        sharing = (((0, 1), (2, 3)), ((6, 1), NOUGHT, NOUGHT, (9, 1)))
        self.assertEqual(levelled_far(web, sharing, 1)[1], ((6, 1), NOUGHT, (9, 2), (9, 2)))
        sharing = (((0, 1), (2, 3)), (NOUGHT, (6, 1), (5, 1), (4, 1)))
        self.assertEqual(levelled_far(web, sharing, 1)[1], ((3, 1), (3, 1), (5, 1), (4, 1)))

    def test_even_it_stays(self):
        for times in (0, 1, 20):
            self.assertEqual(levelled_far(PATH, MID, times), MID)
            self.assertEqual(levelled_far((1, ()), (((0,),), (NOUGHT,)), times), (((0,),), (NOUGHT,)))

    def test_nought_times(self):
        self.assertEqual(levelled_far(PATH, LOW, 0), LOW)
        self.assertEqual(levelled_far(PATH, LOW, 1), MID)

    def test_loose(self):
        for times in (0, 1, 20):
            for sharing in (LOOSE, (((0,), (1,), (2,), (3,)), (NOUGHT,) * 4)):
                with self.assertRaises(Loose):
                    levelled_far(PATH, sharing, times)

    def test_all_but_firm_ones(self):
        for web, sharing in webs_and_sharings()[::3]:
            for times in (0, 2):
                if is_firm(web, sharing):
                    levelled_far(web, sharing, times)
                else:
                    self.assertRaises(Loose, levelled_far, web, sharing, times)

    def test_gains_at_the_bound(self):
        web = web_of(8, [tie[:2] + (MOST_GAIN,) for tie in all_ties(8)])
        pairing = ((0, 1), (2, 3), (4, 5), (6, 7))
        half = (pairing, ((MOST_GAIN // 2, 1),) * 8)
        self.assertIs(is_even(web, half), True)
        self.assertEqual(levelled_far(web, half, 20), half)
        sides = web_of(8, [(one, other, MOST_GAIN) for one in (0, 2, 4, 6) for other in (1, 3, 5, 7) if one < other])
        told = levelled_far(sides, (pairing, ((MOST_GAIN, 1), NOUGHT) * 4), 20)
        self.assertTrue(is_firm(sides, told))


class OwnTest(unittest.TestCase):

    def test_handed_in_stays(self):
        for web, sharing in many_firm_sharings(85)[::9]:
            kept = copy.deepcopy((web, sharing))
            for ask in (
                uneven, is_even, lambda web, sharing: levelled_far(web, sharing, 3),
                lambda web, sharing: [above(web, sharing, person) for person in range(web[0])],
                lambda web, sharing: [levelled(web, sharing, pair[0]) for pair in pairs(sharing)],
            ):
                first = ask(web, sharing)
                again = copy.deepcopy(first)
                if isinstance(first, list):
                    first.append("spoilt")
                self.assertEqual(ask(web, sharing), again)
            self.assertEqual((web, sharing), kept)


if __name__ == "__main__":
    unittest.main()
