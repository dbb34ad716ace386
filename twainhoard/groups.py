"""Papers of groups: by one that holds, no pairing is worth more than its sum."""

from twainhoard.kinds import is_rising, is_row
from twainhoard.ratios import NOUGHT, is_ratio, less, plus, times, total
from twainhoard.sharings import is_shares
from twainhoard.webs import is_person

GROUP_SIZES = (3, 5, 7)


def is_group(web, thing):
    """Whether a thing of any kind is a pair of a rising tuple of 3, 5 or 7 persons and a ratio above 0."""
    if not is_row(thing, 2):
        return False
    people, each = thing
    if not isinstance(people, tuple) or len(people) not in GROUP_SIZES:
        return False
    if not all([is_person(web[0], person) for person in people]) or not is_rising(people):
        return False
    return is_ratio(each) and less(NOUGHT, each)


def is_paper(web, thing):
    """Whether a thing of any kind is a paper of groups, be it one that holds or not."""
    if not is_row(thing, 2):
        return False
    numbers, groups = thing
    # The numbers are bound just as shares are: a ratio from 0 on for each person.
    if not is_shares(web, numbers) or not isinstance(groups, tuple):
        return False
    return all([is_group(web, group) for group in groups]) and is_rising([group[0] for group in groups])


def reach(paper, one, other):
    """The numbers of two people and the ratios of all groups that have both, together."""
    numbers, groups = paper
    both = [each for people, each in groups if one in people and other in people]
    return total([numbers[one], numbers[other]] + both)


def paper_holds(web, paper):
    """Whether it is a paper and reaches the gain of each tie."""
    if not is_paper(web, paper):
        return False
    return not any([less(reach(paper, one, other), (gain, 1)) for one, other, gain in web[1]])


def paper_sum(paper):
    """All numbers, and each group's ratio as often as pairs can lie within the group, together."""
    numbers, groups = paper
    pairs = [times((len(people) // 2, 1), each) for people, each in groups]
    return plus(total(numbers), total(pairs))
