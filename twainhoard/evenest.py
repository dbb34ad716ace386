"""The evenest sharing: the firm one with the greatest row of slacks."""

from twainhoard.covers import outs_and_ins
from twainhoard.firm import firm_sharing, is_firm_sharing
from twainhoard.kinds import is_row
from twainhoard.ranges import highest_way
from twainhoard.ratios import least_first, less
from twainhoard.rounds import evenest_slacks, least_steps, most_steps
from twainhoard.sharings import slack
from twainhoard.swaps import is_swap
from twainhoard.webs import is_party, parties


def row_of(web, shares):
    """The list of the slacks of all parties, the least first."""
    return least_first([slack(web, shares, party) for party in parties(web)])


def evenest(web):
    """(pairing, shares, papers): a best pairing, the evenest shares, and for each other party a swap; Barred."""
    pairing = firm_sharing(web)[0]
    slacks = evenest_slacks(web, pairing)
    shares = tuple([slacks[(person,)] for person in range(web[0])])
    return (pairing, shares, [paper_of(web, pairing, slacks, party) for party in outside_of(web, pairing)])


def outside_of(web, pairing):
    """The rising list of the parties that aren't in the pairing."""
    return [party for party in parties(web) if party not in pairing]


def paper_of(web, pairing, slacks, party):
    """(party, outs, ins): a swap of parties with no more slack than that one, which is in its outs, for the pairing's.

    The steps back from the party's upper mark to its lower one, with its own, are a ring, so that they hold each person
    equally often. There is such a way: else the party could have more slack without less for those with no more.
    """
    people = web[0]
    steps = []
    for each in pairing:
        steps.extend(most_steps(people, each, 0))
    for each in parties(web):
        if not less(slacks[party], slacks[each]):
            steps.extend(least_steps(people, each, 0))
    start, end = party[0] + people, party[-1]
    outs, ins = outs_and_ins(people, highest_way(steps, people, end, start) + [(start, end, 0)])
    return (party, outs, ins)


def levels(web):
    """The list of pairs (slack, parties) by the evenest shares, the least slack first; Barred."""
    slacks = evenest_slacks(web, firm_sharing(web)[0])
    told = []
    for each in least_first(list(slacks.values())):
        if not told or told[-1][0] != each:
            told.append((each, tuple([party for party in parties(web) if slacks[party] == each])))
    return told


def evenest_right(web, told):
    """Whether a tuple of three told of the evenest sharing is right; Barred."""
    firm_sharing(web)
    if not is_row(told, 3) or not is_firm_sharing(web, told[:2]):
        return False
    pairing, shares, papers = told
    if not isinstance(papers, list) or not all([is_paper_of_party(web, paper) for paper in papers]):
        return False
    if [paper[0] for paper in papers] != outside_of(web, pairing):
        return False
    return all([shows_evenest(web, pairing, shares, paper) for paper in papers])


def is_paper_of_party(web, thing):
    """Whether a thing of any kind is a triple of a party and the two tuples of a swap."""
    return is_row(thing, 3) and is_party(web, thing[0]) and is_swap(web, thing[1], thing[2])


def shows_evenest(web, pairing, shares, paper):
    """Whether a paper's swap has its party and none of more slack in its outs, and ins of the pairing alone."""
    party, outs, ins = paper
    if party not in outs or not all([each in pairing for each in ins]):
        return False
    most = slack(web, shares, party)
    return not any([less(most, slack(web, shares, each)) for each in outs])
