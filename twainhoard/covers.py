"""Doubles and covers, and the steps between marks by which they are found.

Each person has two marks in a list: an upper one at the place of its number, and a lower one as many places on as there
are people. Its share is half of what the upper one is above the lower one. A step (start, end, more) asks that the mark
at the place end is above that at the place start by so much at least. So steps from the lower mark of either of a party
to the upper one of the other keep it from being loose, and steps from upper to lower marks, by its gain below 0, keep
it from having more than its gain.
"""

from twainhoard.pairings import held
from twainhoard.ratios import ratio
from twainhoard.sharings import is_shares, loose
from twainhoard.webs import gains, is_sorted_parties, parties


def is_double(web, thing):
    """Whether a thing of any kind is a sorted tuple of parties that holds each person just twice."""
    return is_sorted_parties(web, thing) and held(thing) == sorted(list(range(web[0])) * 2)


def is_cover(web, shares):
    """Whether they are shares of the web by which no party is loose."""
    return is_shares(web, shares) and not loose(web, shares)


def cover(web):
    """A cover and a double: what the cover has together, twice, is what the double is worth."""
    people = web[0]
    mates = list(range(people))
    marks, ring = settled(steps_of(web, mates), people)
    while ring:
        # A ring that rises leads to mates that are worth more, so this comes to an end.
        for start, end, more in ring:
            if start >= people:
                mates[end] = start - people
        marks, ring = settled(steps_of(web, mates), people)
    return (shares_by(marks), double_of(mates))


def mates_of(people, pairing):
    """The list of whom each person is with: its companion, or itself where it is alone."""
    mates = list(range(people))
    for party in pairing:
        mates[party[0]], mates[party[-1]] = party[-1], party[0]
    return mates


def steps_of(web, mates):
    """The steps that keep all parties from being loose, and each person and its mate from having more than their gain.

    The list of mates holds each person once; whose mate a person is need not be its own mate.
    """
    people, gained = web[0], gains(web)
    steps = []
    for party in parties(web):
        one, other, gain = party[0], party[-1], gained.get(party, 0)
        steps.extend([(one + people, other, gain), (other + people, one, gain)])
    for person, mate in enumerate(mates):
        gain = gained.get((min(person, mate), max(person, mate)), 0)
        steps.append((person, mate + people, -gain))
    return steps


def climbed(marks, steps):
    """Marks raised until each step is kept, the step that last raised each one, and None.

    Marks that are None take no part until a step comes to them. Where some ring of steps rises, so that there is no end
    of raising, the place of a mark that such a ring raised stands instead of the last None.
    """
    marks, raised_by, last = list(marks), [None] * len(marks), None
    # What no ring raises is raised by fewer steps in a row than there are marks.
    for turn in range(len(marks)):
        last = None
        for step in steps:
            start, end, more = step
            if marks[start] is not None and (marks[end] is None or marks[end] < marks[start] + more):
                marks[end], raised_by[end], last = marks[start] + more, step, end
        if last is None:
            break
    return marks, raised_by, last


def settled(steps, people):
    """Marks that keep each step, and no ring of steps; or None, and a ring of steps that rises."""
    marks, raised_by, last = climbed([0] * (2 * people), steps)
    if last is None:
        return marks, []
    # Back from there by so many steps as there are marks, one stands within the ring.
    for turn in range(len(marks)):
        last = raised_by[last][0]
    ring = [raised_by[last]]
    while ring[-1][0] != last:
        ring.append(raised_by[ring[-1][0]])
    return None, ring


def shares_by(marks):
    """The shares that marks stand for."""
    people = len(marks) // 2
    return tuple([ratio(marks[person] - marks[person + people], 2) for person in range(people)])


def party_twice(one, other):
    """A list of the party of two people; of one person, who stands for two there, its party twice."""
    return [(min(one, other), max(one, other))] if one != other else [(one,), (one,)]


def double_of(mates):
    """The double of each person with its mate."""
    return tuple(sorted([party for person, mate in enumerate(mates) for party in party_twice(person, mate)]))


def outs_and_ins(people, steps):
    """Two sorted tuples of the parties of steps: those that rise from lower to upper marks, and those that go back."""
    outs, ins = [], []
    for start, end, more in steps:
        some = party_twice(start % people, end % people)
        if start >= people:
            outs.extend(some)
        else:
            ins.extend(some)
    return tuple(sorted(outs)), tuple(sorted(ins))
