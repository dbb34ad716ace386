"""The least and the greatest slack that a party has by all firm sharings."""

from twainhoard.covers import climbed, mates_of, outs_and_ins, settled, shares_by, steps_of
from twainhoard.firm import firm_sharing, is_firm_sharing
from twainhoard.kinds import is_row
from twainhoard.pairings import held, worth
from twainhoard.ratios import is_ratio, minus, ratio
from twainhoard.sharings import slack
from twainhoard.webs import gain_of, is_sorted_parties


def known_pairing(web, party):
    """A best pairing; NoParty of what is no party of the web, then Barred where no sharing is firm."""
    gain_of(web, party)
    return firm_sharing(web)[0]


def least_slack(web, party):
    """(slack, pairing, outs, ins, shares), which show that no firm sharing leaves the party less."""
    pairing = known_pairing(web, party)
    # Ways from lower to upper marks tell what people have at least.
    return farthest(web, pairing, party, [person + web[0] for person in party], list(party))


def greatest_slack(web, party):
    """(slack, pairing, outs, ins, shares), which show that no firm sharing leaves the party more."""
    pairing = known_pairing(web, party)
    # Ways from upper to lower marks, which go down, tell what people have at most.
    return farthest(web, pairing, party, list(party), [person + web[0] for person in party])


def farthest(web, pairing, party, starts, ends):
    """The tuple of five for the slack that is bound by ways from the party's marks at starts to those at ends."""
    people = web[0]
    steps = steps_of(web, mates_of(people, pairing))
    ways = binding_ways(steps, people, starts, ends)
    # Steps back along the ways leave no room above what they bind, so the shares come to just that.
    backs = [(way[0][1], way[-1][0], -rise(way)) for way in ways]
    marks, ring = settled(steps + backs, people)
    shares = shares_by(marks)
    outs, ins = outs_and_ins(people, [step for way in ways for step in way])
    return (slack(web, shares, party), pairing, outs, ins, shares)


def binding_ways(steps, people, starts, ends):
    """The ways from each start to an end of its own that rise most together."""
    choices = []
    for turned in (ends, ends[::-1]):
        choices.append([highest_way(steps, people, start, end) for start, end in zip(starts, turned)])
    return max(choices, key=lambda ways: sum([rise(way) for way in ways]))


def highest_way(steps, people, start, end):
    """The list of steps, the last one first, of a way that rises most from one mark of a party to another."""
    marks, raised_by, last = climbed([0 if place == start else None for place in range(2 * people)], steps)
    # Each mark of a party is reached: from either mark of a person to the other one, and on along the party's tie.
    way = [raised_by[end]]
    while way[-1][0] != start:
        way.append(raised_by[way[-1][0]])
    return way


def rise(way):
    """By how much the last mark of a way is above the first one at least."""
    return sum([more for start, end, more in way])


def least_right(web, party, told):
    """Whether a tuple of five told of the least slack is right; NoParty, Barred."""
    known_pairing(web, party)
    return is_reached(web, party, told) and is_bound(web, party, told[0], told[2], told[3])


def greatest_right(web, party, told):
    """Whether a tuple of five told of the greatest slack is right; NoParty, Barred."""
    known_pairing(web, party)
    return is_reached(web, party, told) and is_bound(web, party, told[0], told[3], told[2])


def is_reached(web, party, told):
    """Whether a tuple of five has its forms, the ins of the pairing, and a firm sharing that has the told slack."""
    if not is_row(told, 5):
        return False
    reached, pairing, outs, ins, shares = told
    if not is_firm_sharing(web, (pairing, shares)) or not is_ratio(reached) or slack(web, shares, party) != reached:
        return False
    return is_sorted_parties(web, outs) and is_sorted_parties(web, ins) and all([one in pairing for one in ins])


def is_bound(web, party, reached, many, few):
    """Whether many hold all that few do and each of the party twice more, and half their worth more binds the slack."""
    if held(many) != sorted(held(few) + list(party) * 2):
        return False
    return minus(ratio(worth(web, many) - worth(web, few), 2), (gain_of(web, party), 1)) == reached
