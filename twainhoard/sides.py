"""Sides: rising tuples of people of which each tie has just one; or a round of odd length, by which there are none."""

from twainhoard.errors import NoSides
from twainhoard.kinds import is_rising
from twainhoard.ratios import less
from twainhoard.webs import is_person, parts


def is_side(web, thing):
    """Whether a thing of any kind is a side of the web."""
    if not isinstance(thing, tuple) or not all([is_person(web[0], one) for one in thing]) or not is_rising(thing):
        return False
    return all([(one in thing) != (other in thing) for one, other, gain in web[1]])


def must_be_side(web, thing):
    """Refuses, with NoSides, a thing of any kind that is no side of the web."""
    if not is_side(web, thing):
        raise NoSides("a side is a rising tuple of people of which each tie has just one")


def two_sides(web):
    """("sides", side), with the side of each part's least person; or ("round", people), by which there is none."""
    ways = ways_of(web)
    for one, other, gain in web[1]:
        if len(ways[one]) % 2 == len(ways[other]) % 2:
            return ("round", closed(ways[one], ways[other]))
    return ("sides", tuple([person for person, way in enumerate(ways) if len(way) % 2 == 1]))


def ways_of(web):
    """For each person a tuple of people, each tied to the next one, from the least one of its part to that person."""
    people, ties = web
    ways = [None] * people
    for part in parts(web):
        ways[part[0]] = part[:1]
    # A way has no more people than there are, so these turns come to everybody.
    for turn in range(people):
        for one, other, gain in ties:
            for start, end in ((one, other), (other, one)):
                if ways[start] is not None and ways[end] is None:
                    ways[end] = ways[start] + (end,)
    return ways


def closed(one, other):
    """The round of two ways, whose last people are tied, from where they part."""
    alike = 0
    while alike < min(len(one), len(other)) and one[alike] == other[alike]:
        alike += 1
    return one[alike - 1:] + other[alike:][::-1]


def joined(web, side, one, other):
    """Shares by which each of the side has the greater of two shares, and each other one the lesser; NoSides."""
    must_be_side(web, side)
    told = []
    for person, (here, there) in enumerate(zip(one, other)):
        takes_there = less(here, there) == (person in side)
        told.append(there if takes_there else here)
    return tuple(told)
