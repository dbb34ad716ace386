"""Webs and things of every kind, for all tests."""

import collections
import fractions
import functools
import itertools
import random

from twainhoard.firm import firm
from twainhoard.pairings import pairings_of

MOST_GAIN = 10 ** 12

SIXTY = 10 ** 60 - 1


class SameAsAll:
    """A thing that says it equals whatever it is compared with."""

    def __eq__(self, other):
        return True

    def __hash__(self):
        return 0


class Unruly:
    """A thing that can be neither compared, measured, walked, hashed nor asked for its truth."""

    __hash__ = None

    def fail(self, *rest):
        raise RuntimeError("asked of an unruly thing")

    __eq__ = __ne__ = __lt__ = __le__ = __gt__ = __ge__ = fail
    __len__ = __iter__ = __getitem__ = __contains__ = __bool__ = __index__ = __int__ = fail
    __repr__ = __str__ = fail


def some_def():
    """A def that is handed in as a thing."""


def odd_things():
    """Things of every kind that are no ratio, number of people, web, party, person, pairing or sharing of any web."""
    return [
        None, True, False, Ellipsis, NotImplemented, -1, 9, SIXTY, -SIXTY, 10 ** 200,
        "", "0", "0-1", "(0,)", b"", b"\x00", bytearray(b"\x01"),
        [], [0], [0, 1], [[0], [1]], [(0,), (1,)], (), ((),), ([],), ((), ()), ([], []), ({}, {}),
        {}, {0: 1}, {(0,): 0}, set(), {0}, {(0,)}, frozenset(), frozenset([0, 1]),
        range(0), range(2), object(), object, int, tuple, some_def, len, ValueError("no"), ValueError,
        fractions.Fraction(1, 2), fractions.Fraction(0), complex(0, 1), memoryview(b"ab"), iter(()),
        SameAsAll(), Unruly(), collections.deque([0]), random, slice(0, 1),
        (None,), (None, None), (True,), (False,), (False, True), (True, True), (0, True), (False, 1),
        ("0",), ("a", "b"), "ab", (b"a", b"b"), (fractions.Fraction(0),),
        (fractions.Fraction(0), fractions.Fraction(1)),
        (SameAsAll(),), (SameAsAll(), SameAsAll()), (Unruly(),), (Unruly(), Unruly()), (Unruly(), Unruly(), Unruly()),
        (-1,), (8,), (0, 0), (1, 0), (0, 8), (-1, 0), (0, 0, 1), (0, 1, 2, 3), ((0,), 1), (0, (1,)),
    ]


def all_ties(people, gain=1):
    """A list of the ties of all twos, with gains rising from that one on."""
    twos = itertools.combinations(range(people), 2)
    return [(one, other, gain + at) for at, (one, other) in enumerate(twos)]


def some_webs():
    """Webs of one to eight people, without ties, with all, and with some of them."""
    chance = random.Random(5)
    told = []
    for people in range(1, 9):
        full = all_ties(people)
        told.append((people, ()))
        told.append((people, tuple(full)))
        told.append((people, tuple((one, other, MOST_GAIN) for one, other, gain in full)))
        for time in range(4):
            kept = [(one, other) for one, other, gain in full if chance.randrange(3)]
            told.append((people, tuple((one, other, chance.randint(1, 9)) for one, other in kept)))
    return told


def as_ratio(number):
    """The ratio of a Fraction or a whole number."""
    number = fractions.Fraction(number)
    return (number.numerator, number.denominator)


def as_fraction(one):
    """The Fraction of a ratio."""
    return fractions.Fraction(*one)


def sharing_of(web, pairing, parting):
    """The sharing in which the first one of each pair has that part of the gain."""
    gains = {tie[:2]: tie[2] for tie in web[1]}
    shares = {}
    for party in pairing:
        gain = gains.get(party, 0)
        shares[party[-1]] = gain - gain * parting
        shares[party[0]] = gain * parting
    return (pairing, tuple(as_ratio(shares[person]) for person in range(web[0])))


def some_sharings(web, pairings):
    """Sharings of the web with these pairings, parted in half, all to one, and by ratios of sixty figures."""
    partings = (0, 1, fractions.Fraction(1, 2), fractions.Fraction(2, 3), fractions.Fraction(SIXTY // 7, SIXTY - 1))
    return [sharing_of(web, pairing, parting) for pairing in pairings for parting in partings]


def webs_and_sharings():
    """Pairs of a web and a sharing of it: some of every web, of pairings from the first to the last ones."""
    told = []
    for web in some_webs():
        pairings = pairings_of(web)
        for sharing in some_sharings(web, pairings[::max(1, len(pairings) // 7)]):
            told.append((web, sharing))
    return told


def ring(people, gains, first=0):
    """The ties of a ring of so many people, from that one on, with these gains, again from their first on."""
    twos = [(first + at, first + (at + 1) % people) for at in range(people)]
    return [(min(two), max(two), gains[at % len(gains)]) for at, two in enumerate(twos)]


def web_of(people, ties):
    """The web of so many people and ties in whatever order."""
    return (people, tuple(sorted(ties)))


def named_webs():
    """Webs that are told apart by their shape: rings, two sides, parts, gains alike and far apart."""
    sides = [(one, other, 3 * one + other) for one in range(4) for other in range(4, 8)]
    rows = ((1,), (2, 3), (7, 1, 4), (MOST_GAIN,))
    told = [web_of(many, ring(many, gains)) for many in range(3, 9) for gains in rows]
    told += [web_of(8, ring(many, (5,))) for many in (3, 5, 7)]
    told += [
        (1, ()), (2, ()), (2, ((0, 1, 1),)), (2, ((0, 1, MOST_GAIN),)), (8, ()), web_of(8, sides),
        web_of(8, [(one, other, MOST_GAIN) for one, other, gain in sides]),
        web_of(6, ring(3, (2,)) + ring(3, (2, 3), 3)), web_of(6, ring(3, (4,)) + ring(3, (4,), 3) + [(2, 3, 1)]),
        web_of(6, ring(3, (4,)) + ring(3, (4,), 3) + [(2, 3, 5)]), web_of(8, ring(5, (3,)) + ring(3, (1,), 5)),
        web_of(8, ring(5, (3,)) + ring(3, (6,), 5) + [(0, 5, 3)]), web_of(8, ring(3, (8,)) + [(3, 4, 2), (5, 6, 9)]),
        web_of(7, ring(3, (9,)) + ring(3, (9,), 3) + [(2, 6, 1), (5, 6, 1)]), (8, tuple(all_ties(8, MOST_GAIN - 27))),
        web_of(7, [(one, other, 6 if other < 3 else 4) for one, other, gain in all_ties(7)]),
        web_of(7, [(one, other, 6 if other < 5 else 5) for one, other, gain in all_ties(7)]),
        web_of(7, [(one, other, 3 if other < 3 else 2 if other < 5 else 1) for one, other, gain in all_ties(7)]),
        web_of(8, [(one, 7, 10 ** (one + 1)) for one in range(7)]),
    ]
    return told


def small_webs(people, most):
    """All webs of so many people with gains up to that one."""
    twos = list(itertools.combinations(range(people), 2))
    for gains in itertools.product(range(most + 1), repeat=len(twos)):
        yield (people, tuple((one, other, gain) for (one, other), gain in zip(twos, gains) if gain))


def mixed_webs(seed, many):
    """So many webs of one to eight people with some ties, gains near to one another or far apart."""
    chance = random.Random(seed)
    for time in range(many):
        people, likely, most = chance.randint(1, 8), chance.choice((3, 6, 10)), chance.choice((2, 6, 30, MOST_GAIN))
        least = chance.choice((1, max(1, most * 3 // 4)))
        twos = [two for two in itertools.combinations(range(people), 2) if chance.randrange(10) < likely]
        yield (people, tuple((one, other, chance.randint(least, most)) for one, other in twos))


def firm_webs(webs):
    """Those of the webs that have a firm sharing."""
    return [web for web in webs if firm(web)[0] == "firm"]


def half_covers(web):
    """All covers whose shares are halves up to the greatest gain, as tuples of Fractions."""
    most = max([0] + [gain for one, other, gain in web[1]])
    halves = [fractions.Fraction(top, 2) for top in range(2 * most + 1)]
    for shares in itertools.product(halves, repeat=web[0]):
        if all(shares[one] + shares[other] >= gain for one, other, gain in web[1]):
            yield shares


@functools.lru_cache(maxsize=None)
def most_worth(web):
    """The worth of the best pairings, found by trying them all."""
    gains = {tie[:2]: tie[2] for tie in web[1]}
    return max(sum(gains.get(party, 0) for party in pairing) for pairing in pairings_of(web))


def is_plain(told):
    """Whether what is told is of tuples, texts and whole numbers through and through."""
    if isinstance(told, tuple):
        return all(is_plain(thing) for thing in told)
    return isinstance(told, (int, str)) and not isinstance(told, bool)
