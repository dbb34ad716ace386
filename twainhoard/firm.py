"""Whether a web has a firm sharing, or a double bars all of them; and the gift that is missing."""

from twainhoard.best import best_pairing, best_paper
from twainhoard.covers import cover, is_double
from twainhoard.errors import Barred
from twainhoard.groups import paper_holds, paper_sum
from twainhoard.kinds import is_told
from twainhoard.pairings import is_pairing, worth
from twainhoard.ratios import ratio
from twainhoard.sharings import is_firm, is_sharing


def weighed(web):
    """A best pairing, a cover, a double, and by how much the double is worth more than twice the pairing."""
    pairing = best_pairing(web)
    shares, double = cover(web)
    return pairing, shares, double, worth(web, double) - 2 * worth(web, pairing)


def firm(web):
    """("firm", pairing, shares), a firm sharing; or ("barred", double, pairing, paper), by which there is none."""
    pairing, shares, double, missing = weighed(web)
    if missing > 0:
        return ("barred", double, pairing, best_paper(web))
    # A cover that has no more than the pairing is worth leaves no party of it more than its gain.
    return ("firm", pairing, shares)


def firm_sharing(web):
    """A firm sharing; Barred where there is none."""
    pairing, shares, double, missing = weighed(web)
    if missing > 0:
        raise Barred("the web has no firm sharing")
    return (pairing, shares)


def gift(web):
    """What a cover has together at least, less the worth of a best pairing."""
    pairing, shares, double, missing = weighed(web)
    return ratio(missing, 2)


def is_firm_sharing(web, thing):
    """Whether a thing of any kind is a firm sharing of the web."""
    return is_sharing(web, thing) and is_firm(web, thing)


def is_bar(web, double, pairing, paper):
    """Whether they are a double, worth more than twice a pairing, and a paper that no pairing is worth more."""
    if not is_double(web, double) or not is_pairing(web, pairing) or not paper_holds(web, paper):
        return False
    most = worth(web, pairing)
    return worth(web, double) > 2 * most and paper_sum(paper) == (most, 1)


def firm_right(web, told):
    """Whether what is told of a web, firm or barred, is so."""
    if is_told(told, "firm", 3):
        return is_firm_sharing(web, told[1:])
    return is_told(told, "barred", 4) and is_bar(web, told[1], told[2], told[3])
