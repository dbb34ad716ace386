"""Whether a pairing can be shared firmly, or a swap bars it."""

from twainhoard.covers import mates_of, outs_and_ins, settled, shares_by, steps_of
from twainhoard.firm import is_firm_sharing
from twainhoard.kinds import is_told
from twainhoard.pairings import is_pairing
from twainhoard.swaps import is_swap, swap_slack


def firm_for(web, pairing):
    """("firm", shares), with which the pairing is firm; or ("barred", outs, ins), a swap that bars it."""
    people = web[0]
    marks, ring = settled(steps_of(web, mates_of(people, pairing)), people)
    if ring:
        # The ring rises, so its outs are worth more than its ins.
        outs, ins = outs_and_ins(people, ring)
        return ("barred", outs, ins)
    return ("firm", shares_by(marks))


def is_barring(web, pairing, outs, ins):
    """Whether outs and ins are a swap that bars the pairing."""
    if not is_pairing(web, pairing) or not is_swap(web, outs, ins):
        return False
    return all([party in pairing for party in ins]) and swap_slack(web, outs, ins) < 0


def fixing_right(web, pairing, told):
    """Whether what is told of a pairing, firm or barred, is so."""
    if is_told(told, "firm", 2):
        return is_firm_sharing(web, (pairing, told[1]))
    return is_told(told, "barred", 3) and is_barring(web, pairing, told[1], told[2])
