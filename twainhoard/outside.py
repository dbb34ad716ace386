"""What a person could have with another one than its own companion."""

from twainhoard.errors import NoPerson
from twainhoard.ratios import NOUGHT, less, minus
from twainhoard.webs import is_person


def other_of(two, person):
    """The one of two people that isn't that person."""
    return two[1] if two[0] == person else two[0]


def companion(sharing, person):
    """The other one of that person's pair, or None where the person is alone."""
    pairing, shares = sharing
    # Each person has one share, so the sharing itself tells how many people there are.
    if not is_person(len(shares), person):
        raise NoPerson("that is no number of a person of the sharing")
    for party in pairing:
        if len(party) == 2 and person in party:
            return other_of(party, person)
    return None


def outside(web, sharing, person):
    """The greatest of 0 and of what ties but the person's own pair would leave it."""
    own = companion(sharing, person)
    most = NOUGHT
    for one, another, gain in web[1]:
        other = other_of((one, another), person)
        if person in (one, another) and other != own:
            left = minus((gain, 1), sharing[1][other])
            most = left if less(most, left) else most
    return most
