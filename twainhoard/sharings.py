"""Sharings: pairs (pairing, shares) by which each party of the pairing has just its gain."""

from twainhoard.kinds import is_row
from twainhoard.pairings import is_pairing
from twainhoard.ratios import NOUGHT, is_ratio, less, minus, total
from twainhoard.webs import gain_of, parties


def is_shares(web, thing):
    """Whether a thing of any kind is shares of the web: a ratio from 0 on for each person."""
    if not is_row(thing, web[0]):
        return False
    return all([is_ratio(share) and not less(share, NOUGHT) for share in thing])


def is_sharing(web, thing):
    """Whether a thing of any kind is a sharing of the web."""
    if not is_row(thing, 2):
        return False
    pairing, shares = thing
    if not is_pairing(web, pairing) or not is_shares(web, shares):
        return False
    return all([slack(web, shares, party) == NOUGHT for party in pairing])


def slack(web, shares, party):
    """What the party's people have together, less its gain; NoParty of what is none of the web."""
    gain = gain_of(web, party)
    return minus(total([shares[person] for person in party]), (gain, 1))


def loose(web, shares):
    """The rising list of the parties that have less than their gain."""
    return [party for party in parties(web) if less(slack(web, shares, party), NOUGHT)]


def is_firm(web, sharing):
    """Whether by the sharing no party is loose."""
    return not loose(web, sharing[1])
