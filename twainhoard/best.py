"""Best pairings, and the papers of groups which show that none is worth more."""

from twainhoard.pairings import pairings_among, pairings_of, worth
from twainhoard.webs import gains, parties, parts


def all_best(web):
    """The rising list of all best pairings."""
    pairings = pairings_of(web)
    worths = [worth(web, pairing) for pairing in pairings]
    most = max(worths)
    return [pairing for pairing, each in zip(pairings, worths) if each == most]


def best_pairing(web):
    """The first one of the best pairings."""
    return all_best(web)[0]


def best(web):
    """A best pairing, and a paper of groups that holds, with just its worth as its sum."""
    return (best_pairing(web), best_paper(web))


def most_by_crowd(web):
    """A list of the most that a pairing of a crowd is worth; a crowd's place has the bits of its people."""
    gained = gains(web)
    most = [0]
    for crowd in range(1, 1 << web[0]):
        last = crowd.bit_length() - 1
        others = crowd - (1 << last)
        partners = [one for one in range(last) if others >> one & 1 and (one, last) in gained]
        tied = [gained[(one, last)] + most[others - (1 << one)] for one in partners]
        most.append(max([most[others]] + tied))
    return most


def person_step(web, person):
    """By how much the best pairings are worth more than those in which the person is alone."""
    most = most_by_crowd(web)
    return most[-1] - most[len(most) - 1 - (1 << person)]


def part_step(web, part):
    """By how much the best pairings of an odd part are worth more than those with more than one alone."""
    pairings = pairings_among(parties(web), list(part))
    fewest = len(part) // 2 + 1
    short = [worth(web, pairing) for pairing in pairings if len(pairing) > fewest]
    return max([worth(web, pairing) for pairing in pairings]) - max(short)


def lowered(web, some, step):
    """The web with the ties of some people lowered by a step; those that come to nothing fall away."""
    ties = []
    for one, other, gain in web[1]:
        left = gain - step if one in some or other in some else gain
        if left > 0:
            ties.append((one, other, left))
    return (web[0], tuple(ties))


def best_paper(web):
    """A paper of groups that holds and whose sum is the worth of the best pairings."""
    people, left = web[0], web
    numbers, groups = [0] * people, []
    while left[1]:
        # Each step lowers what a best pairing is worth by just what it adds to the paper's sum.
        for person in range(people):
            step = person_step(left, person)
            numbers[person] += step
            left = lowered(left, (person,), step)
        # Now each person is alone in some best pairing. Hence each part is odd, and its best pairings leave just one
        # of it alone; when its step is done some leave three alone, so the part breaks up and never comes again.
        for part in [part for part in parts(left) if len(part) > 1]:
            step = part_step(left, part)
            groups.append((part, (step, 1)))
            left = lowered(left, part, step)
    return (tuple([(number, 1) for number in numbers]), tuple(sorted(groups)))
