"""What one person, and one gain of two people, do to a web."""

from twainhoard.best import most_by_crowd, person_step
from twainhoard.errors import Alone, NoPerson
from twainhoard.firm import weighed
from twainhoard.webs import is_person


def must_be_person(web, thing):
    """Refuses, with NoPerson, a thing of any kind that is no number of a person."""
    if not is_person(web[0], thing):
        raise NoPerson("that is no number of a person of the web")


def two_of(web, one, other):
    """The tuple of two unlike people, the lesser first; NoPerson, then Alone where both are one."""
    must_be_person(web, one)
    must_be_person(web, other)
    if one == other:
        raise Alone("both are one person")
    return (min(one, other), max(one, other))


def put_gain(web, one, other, gain):
    """The web with two people tied with that gain, or not tied where it is 0."""
    two = two_of(web, one, other)
    ties = [tie for tie in web[1] if tie[:2] != two]
    if gain > 0:
        ties.append(two + (gain,))
    return (web[0], tuple(sorted(ties)))


def last_worth(web, person):
    """By how much a best pairing is worth more than one of those in which the person is alone."""
    must_be_person(web, person)
    return person_step(web, person)


def from_gain(web, one, other):
    """The gain from which the two come into best pairings."""
    most = most_by_crowd(put_gain(web, one, other, 0))
    return most[-1] - most[len(most) - 1 - (1 << one) - (1 << other)]


def barred_gains(web, one, other):
    """(first, last) of the gains at which the web is barred, last None where there is no last one; None of no gain."""
    gain = from_gain(web, one, other)
    missing, often = weight_at(web, one, other, gain)
    # Up to that gain a best pairing is worth the same, and doubles come to be worth more; from there on twice a best
    # pairing rises with each gain by two, and no double by more. So the web is barred there, if anywhere.
    if missing == 0:
        return None
    return (first_barred(web, one, other, gain), last_barred(web, one, other, gain))


def weight_at(web, one, other, gain):
    """By how much some double is worth more than twice a best pairing at that gain, and how often it holds the two."""
    pairing, shares, double, missing = weighed(put_gain(web, one, other, gain))
    return missing, double.count((min(one, other), max(one, other)))


def first_barred(web, one, other, gain):
    """The first gain at which the web is barred, going down from such a one."""
    missing, often = weight_at(web, one, other, gain)
    while missing > 0 and often > 0:
        # So far down this double no longer bars the web; another one, which holds the two less often, still may. At 0
        # the two aren't tied, so none holds them.
        gain = max(0, gain - (missing - 1) // often - 1)
        missing, often = weight_at(web, one, other, gain)
    return 0 if missing > 0 else gain + 1


def last_barred(web, one, other, gain):
    """The last gain at which the web is barred, going up from such a one; None where there is no last one."""
    missing, often = weight_at(web, one, other, gain)
    while missing > 0 and often < 2:
        # So far up this double no longer bars the web; another one, which holds the two more often, still may.
        gain += (missing - 1) // (2 - often) + 1
        missing, often = weight_at(web, one, other, gain)
    return None if missing > 0 else gain - 1
