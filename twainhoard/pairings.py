"""Pairings: rising tuples of parties that hold each person just once."""

from twainhoard.kinds import is_rising
from twainhoard.webs import gains, is_parties, parties


def is_pairing(web, thing):
    """Whether a thing of any kind is a pairing of the web."""
    return is_parties(web, thing) and is_rising(thing) and held(thing) == list(range(web[0]))


def held(some):
    """The sorted list of the people of parties, each person as often as parties hold it."""
    return sorted([person for party in some for person in party])


def worth(web, some):
    """The gains of a tuple or list of parties together, each as often as it stands."""
    gained = gains(web)
    return sum([gained.get(party, 0) for party in some])


def pairings_of(web):
    """The rising list of all pairings."""
    return pairings_among(parties(web), list(range(web[0])))


def pairings_among(choices, people):
    """The rising list of all pairings of these people (a rising list) by parties of the rising list of choices."""
    if not people:
        return [()]
    told = []
    for party in choices:
        # Parties are taken by their first person, so that no pairing comes twice and all come rising.
        if party[0] == people[0] and party[-1] in people:
            others = [person for person in people if person not in party]
            told.extend([(party,) + rest for rest in pairings_among(choices, others)])
    return told
