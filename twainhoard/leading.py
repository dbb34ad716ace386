"""Deeds by which people come from any sharing to a firm one.

They are led to one firm sharing, the aim, until some sharing is firm. Rich is who has more than in the aim, poor who
has less. No deed here makes anybody rich. Who is tied to a rich one is poor, as no party is loose in the aim.

First come pairs of the aim with a poor and no rich one: such a deed settles that pair as it is in the aim, and
unsettles none. Where no such pair is left, the rich and the poor are equally many, each poor one is with a rich one, in
the aim's pairing and in the sharing's, and all others have just what they have in the aim. So in a loose party there is
a poor one, whom its deed parts from a rich one, who has nothing then; and it unsettles one pair at most. So there are
no more of these deeds than pairs of the aim, and no more of the others than twice as many: three for each two people.
"""

from twainhoard.deeds import done
from twainhoard.firm import firm_sharing
from twainhoard.ratios import less, minus
from twainhoard.sharings import loose
from twainhoard.webs import gain_of


def leading(web, sharing):
    """A list of deeds, at most three for each two people, behind which the sharing is firm; Barred."""
    aim = firm_sharing(web)
    told = []
    some = loose(web, sharing[1])
    while some:
        deed = deed_of(web, sharing, aim, chosen(sharing, aim, some))
        told.append(deed)
        sharing = done(web, sharing, deed)
        some = loose(web, sharing[1])
    return told


def chosen(sharing, aim, some):
    """Of some loose parties the first that is of the aim and has no rich one; where there is none, the first."""
    poor = [party for party in some if party in aim[0] and not any([is_rich(sharing, aim, one) for one in party])]
    return (poor + some)[0]


def is_rich(sharing, aim, person):
    """Whether a person has more than in the aim."""
    return less(aim[1][person], sharing[1][person])


def deed_of(web, sharing, aim, party):
    """The deed of a loose party that makes neither of both rich.

    The first has no more than in the aim, or what it has now; the other one what it has now, or what the first one's
    share in the aim leaves of the gain, which isn't more than its own there.
    """
    one, other = party
    share, most = sharing[1][one], minus((gain_of(web, party), 1), sharing[1][other])
    aimed = aim[1][one] if less(aim[1][one], most) else most
    return (one, other, aimed if less(share, aimed) else share)
