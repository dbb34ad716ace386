"""Webs: tuples (people, ties); a tie is a triple of two people and their gain."""

from twainhoard.errors import NoParty, NoPerson, NoWeb, Twice
from twainhoard.kinds import is_rising, is_row, is_sorted, is_whole

MOST_PEOPLE = 8
MOST_GAIN = 10 ** 12


def is_people(thing):
    """Whether a thing of any kind is a number of people."""
    return is_whole(thing) and 1 <= thing <= MOST_PEOPLE


def is_person(people, thing):
    """Whether a thing of any kind is the number of one of so many people."""
    return is_whole(thing) and 0 <= thing < people


def is_triple(people, thing):
    """Whether a thing of any kind is a triple of two unlike people, in either order, and a gain."""
    if not is_row(thing, 3):
        return False
    one, other, gain = thing
    if not is_person(people, one) or not is_person(people, other) or one == other:
        return False
    return is_whole(gain) and 1 <= gain <= MOST_GAIN


def made_web(people, things):
    """The web of so many people and a list of triples in whatever order."""
    if not is_people(people):
        raise NoWeb("people are a whole number from 1 to 8")
    if not isinstance(things, list) or not all([is_triple(people, thing) for thing in things]):
        raise NoWeb("ties are a list of triples of two unlike people and a gain from 1 to 10 ** 12")
    ties = sorted([(min(one, other), max(one, other), gain) for one, other, gain in things])
    if not is_rising([tie[:2] for tie in ties]):
        raise Twice("two triples have the same two people")
    return (people, tuple(ties))


def is_web(thing):
    """Whether a thing of any kind is a web."""
    if not is_row(thing, 2):
        return False
    people, ties = thing
    if not is_people(people) or not isinstance(ties, tuple):
        return False
    if not all([is_triple(people, tie) and tie[0] < tie[1] for tie in ties]):
        return False
    return is_rising([tie[:2] for tie in ties])


def parties(web):
    """The rising list of all parties: each person alone, and the two of each tie."""
    people, ties = web
    return sorted([(person,) for person in range(people)] + [tie[:2] for tie in ties])


def is_party(web, thing):
    """Whether a thing of any kind is a party of the web."""
    # (True,) is the same as (1,) to Python, so what the tuple holds is asked first.
    return isinstance(thing, tuple) and all([is_whole(one) for one in thing]) and thing in parties(web)


def is_parties(web, thing):
    """Whether a thing of any kind is a tuple of parties of the web, in whatever order and however often."""
    return isinstance(thing, tuple) and all([is_party(web, party) for party in thing])


def is_sorted_parties(web, thing):
    """Whether a thing of any kind is a sorted tuple of parties of the web."""
    return is_parties(web, thing) and is_sorted(thing)


def gains(web):
    """A dict of the gain of each party of two."""
    return {(one, other): gain for one, other, gain in web[1]}


def gain_of(web, party):
    """The gain of a party; NoParty of what is none of the web."""
    if not is_party(web, party):
        raise NoParty("a party is one person, or the two of a tie, the lesser first")
    return gains(web).get(party, 0)


def parts(web):
    """The rising list of the parts: the people that ties lead to one another."""
    people, ties = web
    least = list(range(people))
    for one, other, gain in ties:
        kept, dropped = min(least[one], least[other]), max(least[one], least[other])
        least = [kept if mark == dropped else mark for mark in least]
    return [tuple([who for who in range(people) if least[who] == mark]) for mark in sorted(set(least))]


def without(web, person):
    """The web without the ties of that person, who stays in it."""
    people, ties = web
    if not is_person(people, person):
        raise NoPerson("that is no number of a person of the web")
    return (people, tuple([tie for tie in ties if person not in tie[:2]]))
