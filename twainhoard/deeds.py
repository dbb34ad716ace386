"""Deeds: the two of a loose party tie, neither with less than ahead, and whom they leave is alone."""

from twainhoard.errors import NoDeed
from twainhoard.kinds import is_row
from twainhoard.ratios import NOUGHT, is_ratio, less, minus
from twainhoard.sharings import slack
from twainhoard.webs import gain_of, is_party


def behind(web, sharing, deeds):
    """The sharing behind deeds, done one by one; NoDeed with the number of the first that is none there."""
    for at, deed in enumerate(deeds):
        if not is_deed(web, sharing, deed):
            raise NoDeed(at)
        sharing = done(web, sharing, deed)
    return sharing


def is_deed(web, sharing, deed):
    """Whether a triple is a deed of two people who are loose by the sharing, neither of whom comes to have less."""
    if not is_row(deed, 3) or not is_party(web, deed[:2]) or not is_ratio(deed[2]):
        return False
    one, other, share = deed
    shares = sharing[1]
    if not less(slack(web, shares, (one, other)), NOUGHT):
        return False
    rest = minus((gain_of(web, (one, other)), 1), share)
    return not less(share, shares[one]) and not less(rest, shares[other])


def done(web, sharing, deed):
    """The sharing behind one deed."""
    one, other, share = deed
    pairing, changed = [(one, other)], list(sharing[1])
    changed[one], changed[other] = share, minus((gain_of(web, (one, other)), 1), share)
    for party in sharing[0]:
        left = [person for person in party if person not in (one, other)]
        if len(left) == len(party):
            pairing.append(party)
        elif left:
            pairing.append((left[0],))
            changed[left[0]] = NOUGHT
    return (tuple(sorted(pairing)), tuple(changed))
