"""Swaps: parties that go out for parties that come in, each person equally often."""

from twainhoard.pairings import held, worth
from twainhoard.webs import is_sorted_parties


def is_swap(web, outs, ins):
    """Whether they are two sorted tuples of parties that hold each person equally often."""
    return is_sorted_parties(web, outs) and is_sorted_parties(web, ins) and held(outs) == held(ins)


def swap_slack(web, outs, ins):
    """The worth of the ins less that of the outs."""
    return worth(web, ins) - worth(web, outs)
