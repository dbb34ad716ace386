"""The firm sharing in which each person of a side has its most, all at once."""

from twainhoard.best import best_pairing
from twainhoard.firm import is_firm_sharing
from twainhoard.kinds import is_row
from twainhoard.pairings import is_pairing, worth
from twainhoard.ratios import minus
from twainhoard.sides import must_be_side
from twainhoard.webs import gain_of, without


def side_most(web, side):
    """(pairing, shares, papers): a best pairing, these shares, and for each of the side a pairing with it alone."""
    must_be_side(web, side)
    pairing = best_pairing(web)
    papers = [best_pairing(without(web, person)) for person in side]
    shares = [0] * web[0]
    for person, paper in zip(side, papers):
        shares[person] = worth(web, pairing) - worth(web, paper)
    for party in pairing:
        if len(party) == 2:
            one, other = party if party[0] in side else party[::-1]
            shares[other] = gain_of(web, party) - shares[one]
    return (pairing, tuple([(share, 1) for share in shares]), papers)


def most_right(web, side, told):
    """Whether a tuple of three told of the most of a side is right; NoSides."""
    must_be_side(web, side)
    if not is_row(told, 3) or not is_firm_sharing(web, told[:2]):
        return False
    pairing, shares, papers = told
    if not isinstance(papers, list) or len(papers) != len(side):
        return False
    # Who isn't of the side then has its least: it is alone, or has what its companion's most leaves of their gain.
    return all([shows_most(web, told[:2], person, paper) for person, paper in zip(side, papers)])


def shows_most(web, sharing, person, thing):
    """Whether a thing of any kind is a pairing with the person alone, worth the sharing's less that person's share."""
    if not is_pairing(web, thing) or (person,) not in thing:
        return False
    pairing, shares = sharing
    return minus((worth(web, pairing), 1), shares[person]) == (worth(web, thing), 1)
