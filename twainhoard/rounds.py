"""Rounds that raise the least slacks by firm sharings, each as far as it goes, until the slack of each party is known.

Marks and steps are those of twainhoard.covers; here steps are taken so many times greater that all of them are whole.
"""

from twainhoard.covers import climbed, outs_and_ins, settled
from twainhoard.ranges import rise
from twainhoard.ratios import NOUGHT, common_bottom, minus, plus, ratio, times
from twainhoard.webs import gains, parties


def evenest_slacks(web, pairing):
    """A dict of the slack of each party by the evenest shares; the pairing is a best one of a web that isn't barred."""
    known = {party: NOUGHT for party in pairing}
    while len(known) < len(parties(web)):
        known.update(newly_known(web, known))
    return known


def newly_known(web, known):
    """A dict of the slacks that no party has otherwise once the least of those that aren't known is raised most."""
    people, gained = web[0], gains(web)
    many, steps, marks = highest_round(web, known)
    reach = tight_reach(people, steps, marks)
    told = {}
    for party in parties(web):
        start, end = party[0] + people, party[-1]
        # Marks that tight steps lead to one another stay as far apart in whatever sharing keeps all steps.
        if party not in known and reach[start][end] and reach[end][start]:
            apart = ratio(marks[end] - marks[start], many * times_apart(party))
            told[party] = minus(apart, (gained.get(party, 0), 1))
    return told


def highest_round(web, known):
    """(many, steps, marks): so many times the steps with the highest level, and marks that keep them."""
    people = web[0]
    # No party has more slack than this, for nobody has more than the gain of its own pair.
    level = (sum([gain for one, other, gain in web[1]]), 1)
    many, steps = round_steps(web, known, level)
    marks, ring = settled(steps, people)
    while ring:
        # A ring that rises asks for more than there is; lowered so far the level asks by this ring for just as much.
        outs, ins = outs_and_ins(people, ring)
        free = [party for party in outs if party not in known]
        level = minus(level, ratio(rise(ring), many * len(free)))
        many, steps = round_steps(web, known, level)
        marks, ring = settled(steps, people)
    return many, steps, marks


def round_steps(web, known, level):
    """(many, steps): so many times the steps by which known parties have just their slack, others the level or more."""
    people, gained = web[0], gains(web)
    many = common_bottom([level] + list(known.values()))
    steps = []
    for party in parties(web):
        have = plus((gained.get(party, 0), 1), known.get(party, level))
        more = times(have, (many * times_apart(party), 1))[0]
        steps.extend(least_steps(people, party, more))
        if party in known:
            steps.extend(most_steps(people, party, more))
    return many, steps


def times_apart(party):
    """How often the marks of a party's steps are apart what it has: the two marks of one person are so twice."""
    return 2 // len(party)


def least_steps(people, party, more):
    """The steps from lower to upper marks that keep a party's marks apart by so much at least."""
    one, other = party[0], party[-1]
    return [(one + people, other, more), (other + people, one, more)]


def most_steps(people, party, more):
    """The steps from upper to lower marks that keep a party's marks apart by so much at most."""
    one, other = party[0], party[-1]
    return [(one, other + people, -more), (other, one + people, -more)]


def tight_reach(people, steps, marks):
    """For each mark a list of which marks it is led to by steps that the marks keep just so."""
    tight = [(start, end, 0) for start, end, more in steps if marks[end] - marks[start] == more]
    return [reached_from(people, tight, place) for place in range(2 * people)]


def reached_from(people, steps, start):
    """For each mark whether steps, which don't rise, lead to it from that start."""
    marks, raised_by, last = climbed([0 if place == start else None for place in range(2 * people)], steps)
    return [mark is not None for mark in marks]
