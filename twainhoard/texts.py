"""Ratios, webs and rows of parties and of ratios, as texts and read back from them."""

from twainhoard.errors import NoText
from twainhoard.kinds import is_rising
from twainhoard.ratios import NOUGHT, is_ratio, less
from twainhoard.webs import MOST_PEOPLE, is_person, is_web

FIGURES = "0123456789"
MOST_FIGURES = 60
MOST_THINGS = 100
PIECE = 10 ** 60
NONE = "."


def number_text(number):
    """A whole number by its figures."""
    left, pieces = abs(number), []
    # Python's own str refuses numbers of some thousand figures, so long ones are written piece by piece.
    while left >= PIECE:
        pieces.append(str(left % PIECE).zfill(60))
        left = left // PIECE
    pieces.append(str(left))
    return ("-" if number < 0 else "") + "".join(pieces[::-1])


def ratio_text(one):
    """A ratio by its top and, where it isn't 1, its bottom."""
    top, bottom = one
    return number_text(top) if bottom == 1 else f"{number_text(top)}/{number_text(bottom)}"


def party_text(party):
    """A party by its people."""
    return "-".join([number_text(person) for person in party])


def tie_text(tie):
    """A tie by its party and its gain."""
    return f"{party_text(tie[:2])}:{number_text(tie[2])}"


def web_text(web):
    """A web by the number of its people and its ties."""
    return " ".join(["web", number_text(web[0])] + [tie_text(tie) for tie in web[1]])


def row_text(words):
    """A list of words as a row."""
    return " ".join(words) if words else NONE


def parties_text(some):
    """A tuple or list of parties as a row."""
    return row_text([party_text(party) for party in some])


def ratios_text(some):
    """A tuple or list of ratios as a row."""
    return row_text([ratio_text(one) for one in some])


def number_in(text):
    """The whole number that a text writes by at most 60 figures; None of any other text."""
    figures = text[1:] if text.startswith("-") else text
    if figures == "" or len(figures) > MOST_FIGURES or not all([sign in FIGURES for sign in figures]):
        return None
    if figures[0] == "0" and text != "0":
        return None
    return int(text)


def ratio_in(text):
    """The ratio that a text writes; None of any other text."""
    if "/" not in text:
        whole = number_in(text)
        return None if whole is None else (whole, 1)
    top, slash, bottom = text.partition("/")
    told = (number_in(top), number_in(bottom))
    return told if is_ratio(told) and told[1] > 1 else None


def party_in(text):
    """The party, of people from 0 to 7, that a text writes; None of any other text."""
    people = [number_in(word) for word in text.split("-")]
    if len(people) > 2 or not all([is_person(MOST_PEOPLE, person) for person in people]) or not is_rising(people):
        return None
    return tuple(people)


def tie_in(text):
    """The triple of two people and a whole number that a text writes; None of any other text."""
    written, colon, figures = text.partition(":")
    party, gain = party_in(written), number_in(figures)
    if party is None or len(party) != 2 or gain is None:
        return None
    return party + (gain,)


def web_in(text):
    """The web that a text writes; None of any other text."""
    words = text.split(" ")
    if words[0] != "web" or len(words) < 2:
        return None
    told = (number_in(words[1]), tuple([tie_in(word) for word in words[2:]]))
    return told if is_web(told) else None


def must_be_text(thing):
    """Refuses, with NoText, a thing of any kind that is no text."""
    if not isinstance(thing, str):
        raise NoText("that is no text")


def must_be_read(thing):
    """Refuses, with NoText, None, which stands for what isn't so written."""
    if thing is None:
        raise NoText("the text isn't written as such texts are")


def row_words(thing):
    """The list of the words of a row; NoText of what is no row, and of more than a hundred words."""
    must_be_text(thing)
    words = thing.split(" ") if thing != NONE else []
    if len(words) > MOST_THINGS:
        raise NoText("a row has at most a hundred things")
    return words


def read_ratio(thing):
    """The ratio that a text writes; NoText of anything else."""
    must_be_text(thing)
    told = ratio_in(thing)
    must_be_read(told)
    return told


def read_web(thing):
    """The web that a text writes; NoText of anything else."""
    must_be_text(thing)
    told = web_in(thing)
    must_be_read(told)
    return told


def read_parties(thing):
    """The tuple of parties, as they stand, that a row writes; NoText of anything else."""
    told = [party_in(word) for word in row_words(thing)]
    for party in told:
        must_be_read(party)
    return tuple(told)


def read_ratios(thing):
    """The tuple of ratios from 0 on that a row writes; NoText of anything else."""
    told = [read_ratio(word) for word in row_words(thing)]
    if any([less(one, NOUGHT) for one in told]):
        raise NoText("the ratios of a row are from 0 on")
    return tuple(told)
