"""Ratios: tuples (top, bottom) in lowest terms, the bottom from 1 on."""

from twainhoard.errors import NoRatio
from twainhoard.kinds import is_row, is_whole

NOUGHT = (0, 1)


def common_divisor(one, other):
    """The greatest number that divides both; they are from 0 on, and not both 0."""
    while other > 0:
        one, other = other, one % other
    return one


def ratio(top, bottom):
    """The ratio of two whole numbers; NoRatio where the bottom is 0."""
    if bottom == 0:
        raise NoRatio("nothing is parted by 0")
    if bottom < 0:
        top, bottom = -top, -bottom
    common = common_divisor(abs(top), bottom)
    return (top // common, bottom // common)


def plus(one, other):
    """Both ratios together."""
    return ratio(one[0] * other[1] + other[0] * one[1], one[1] * other[1])


def minus(one, other):
    """The one ratio less the other."""
    return ratio(one[0] * other[1] - other[0] * one[1], one[1] * other[1])


def times(one, other):
    """The one ratio as often as the other says."""
    return ratio(one[0] * other[0], one[1] * other[1])


def over(one, other):
    """The one ratio parted by the other; NoRatio where that is nought."""
    # Nought's top comes to stand at the bottom, which ratio refuses.
    return ratio(one[0] * other[1], one[1] * other[0])


def less(one, other):
    """Whether the one ratio is less than the other."""
    return one[0] * other[1] < other[0] * one[1]


def total(some):
    """All ratios of a tuple or list together; nought where there are none."""
    told = NOUGHT
    for one in some:
        told = plus(told, one)
    return told


def common_bottom(some):
    """The least number that each bottom of a list of ratios divides."""
    told = 1
    for top, bottom in some:
        told = told * bottom // common_divisor(told, bottom)
    return told


def least_first(some):
    """The sorted list of the ratios of a list, the least first."""
    common = common_bottom(some)
    return sorted(some, key=lambda one: one[0] * (common // one[1]))


def is_ratio(thing):
    """Whether a thing of any kind is a ratio."""
    if not is_row(thing, 2) or not is_whole(thing[0]) or not is_whole(thing[1]):
        return False
    return thing[1] > 0 and common_divisor(abs(thing[0]), thing[1]) == 1
