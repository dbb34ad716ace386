"""Even sharings: both of each pair have as much above what they could have outside."""

from twainhoard.errors import Alone, Loose
from twainhoard.outside import companion, outside
from twainhoard.ratios import NOUGHT, less, minus, over, plus
from twainhoard.sharings import is_firm
from twainhoard.webs import gain_of


def above(web, sharing, person):
    """A person's share less what it could have outside."""
    could = outside(web, sharing, person)
    return minus(sharing[1][person], could)


def pairs_of(sharing):
    """The rising list of the parties of two of the sharing's pairing."""
    return [party for party in sharing[0] if len(party) == 2]


def difference(web, sharing, pair):
    """By how much the two of a pair differ in what they have above, either way."""
    one, other = above(web, sharing, pair[0]), above(web, sharing, pair[1])
    return minus(other, one) if less(one, other) else minus(one, other)


def uneven(web, sharing):
    """The rising list of the pairs whose two haven't as much above."""
    return [pair for pair in pairs_of(sharing) if difference(web, sharing, pair) != NOUGHT]


def is_even(web, sharing):
    """Whether the sharing is firm and each pair's two have as much above."""
    return is_firm(web, sharing) and not uneven(web, sharing)


def must_be_firm(web, sharing):
    """Refuses, with Loose, a sharing that isn't firm."""
    if not is_firm(web, sharing):
        raise Loose("the sharing has a loose party")


def levelled(web, sharing, person):
    """The firm sharing with the shares of that person's pair changed so that both have as much above."""
    other = companion(sharing, person)
    must_be_firm(web, sharing)
    if other is None:
        raise Alone("that person has no companion")
    return levelled_at(web, sharing, (min(person, other), max(person, other)))


def levelled_at(web, sharing, pair):
    """The sharing levelled at a pair of its pairing."""
    pairing, shares = sharing
    one, other = pair
    gain = (gain_of(web, pair), 1)
    # What either could have outside doesn't hang on the other one's share, so both stay as they are.
    apart = minus(outside(web, sharing, one), outside(web, sharing, other))
    changed = list(shares)
    changed[one] = over(plus(gain, apart), (2, 1))
    changed[other] = minus(gain, changed[one])
    return (pairing, tuple(changed))


def widest(web, sharing):
    """The first of the pairs whose two differ most above; None where no two differ."""
    told, most = None, NOUGHT
    for pair in pairs_of(sharing):
        apart = difference(web, sharing, pair)
        if less(most, apart):
            told, most = pair, apart
    return told


def levelled_far(web, sharing, times):
    """The firm sharing levelled so many times, each time where it is least even."""
    must_be_firm(web, sharing)
    for turn in range(times):
        pair = widest(web, sharing)
        if pair is not None:
            sharing = levelled_at(web, sharing, pair)
    return sharing
