"""A desk: it keeps a web, is told rows of words, and answers."""

from twainhoard.best import best_pairing
from twainhoard.errors import NoRow, NothingDone
from twainhoard.evenest import evenest
from twainhoard.firm import firm, gift
from twainhoard.gains import barred_gains, from_gain, last_worth, put_gain
from twainhoard.kinds import is_rising
from twainhoard.most import side_most
from twainhoard.pairings import worth
from twainhoard.ranges import greatest_slack, least_slack
from twainhoard.sides import two_sides
from twainhoard.texts import number_in, number_text, party_in, ratio_text, ratios_text, web_in, web_text
from twainhoard.webs import MOST_GAIN, is_person, without


def must_have(words, count):
    """Refuses, with NoRow, a row that has another number of words behind its first one."""
    if len(words) != count:
        raise NoRow("the row has too many or too few words")


def person_in(web, word):
    """The person of the web that a word writes; NoRow."""
    person = number_in(word)
    if not is_person(web[0], person):
        raise NoRow("a word is no person of the web")
    return person


def one_in(web, words):
    """The one person that words write; NoRow."""
    must_have(words, 1)
    return person_in(web, words[0])


def two_in(web, words):
    """The two unlike people that words write, in either order; NoRow."""
    must_have(words, 2)
    one, other = person_in(web, words[0]), person_in(web, words[1])
    if one == other:
        raise NoRow("both words are one person")
    return one, other


def party_of(web, words):
    """The party of people of the web, tied or not, that words write; NoRow."""
    must_have(words, 1)
    party = party_in(words[0])
    if party is None or not is_person(web[0], party[-1]):
        raise NoRow("the word is no party of people of the web")
    return party


def gain_in(word):
    """The gain from 0 to 10 ** 12 that a word writes; NoRow."""
    gain = number_in(word)
    if gain is None or not 0 <= gain <= MOST_GAIN:
        raise NoRow("the word is no gain")
    return gain


def new_web(web, words):
    """The web that words write."""
    told = web_in(" ".join(["web"] + words))
    if told is None:
        raise NoRow("the row writes no web")
    return told


def web_put(web, words):
    """The web with two people put to a gain."""
    must_have(words, 3)
    one, other = two_in(web, words[:2])
    return put_gain(web, one, other, gain_in(words[2]))


def web_left(web, words):
    """The web with a person without ties."""
    return without(web, one_in(web, words))


def tell_web(web, words):
    """The web itself."""
    must_have(words, 0)
    return web_text(web)


def tell_best(web, words):
    """The worth of a best pairing."""
    must_have(words, 0)
    return number_text(worth(web, best_pairing(web)))


def tell_firm(web, words):
    """Whether the web has a firm sharing."""
    must_have(words, 0)
    return firm(web)[0]


def tell_gift(web, words):
    """What is missing for a firm sharing."""
    must_have(words, 0)
    return ratio_text(gift(web))


def tell_least(web, words):
    """The least slack of a party."""
    return ratio_text(least_slack(web, party_of(web, words))[0])


def tell_greatest(web, words):
    """The greatest slack of a party."""
    return ratio_text(greatest_slack(web, party_of(web, words))[0])


def tell_evenest(web, words):
    """The evenest shares."""
    must_have(words, 0)
    return ratios_text(evenest(web)[1])


def tell_last(web, words):
    """The last worth of a person."""
    return number_text(last_worth(web, one_in(web, words)))


def tell_from(web, words):
    """The gain from which two people tie."""
    one, other = two_in(web, words)
    return number_text(from_gain(web, one, other))


def tell_bars(web, words):
    """The first and the last of the gains of two people at which the web is barred."""
    one, other = two_in(web, words)
    told = barred_gains(web, one, other)
    if told is None:
        return "none"
    first, last = told
    return f"{number_text(first)} {number_text(last)}" if last is not None else f"{number_text(first)} -"


def tell_sides(web, words):
    """A side of the web, or that there is a round."""
    must_have(words, 0)
    word, people = two_sides(web)
    return " ".join([word] + [number_text(person) for person in people]) if word == "sides" else word


def tell_most(web, words):
    """The shares by which each of a side has its most."""
    side = tuple([person_in(web, word) for word in words])
    if not is_rising(side):
        raise NoRow("the people of the side aren't rising")
    return ratios_text(side_most(web, side)[1])


DEEDS = {"web": new_web, "put": web_put, "leave": web_left}

QUESTIONS = {
    "show": tell_web, "best": tell_best, "firm": tell_firm, "gift": tell_gift, "least": tell_least,
    "greatest": tell_greatest, "evenest": tell_evenest, "last": tell_last, "from": tell_from, "bars": tell_bars,
    "sides": tell_sides, "most": tell_most,
}


class Desk:
    """Keeps a web, and the webs ahead of each deed that isn't taken back."""

    def __init__(self):
        self.web = (1, ())
        self.past = []

    def say(self, row):
        """The answer to a row."""
        words = row.split(" ")
        if words[0] in DEEDS:
            deed = DEEDS[words[0]]
            changed = deed(self.web, words[1:])
            self.past.append(self.web)
            self.web = changed
            return "ok"
        if words[0] in QUESTIONS:
            question = QUESTIONS[words[0]]
            return question(self.web, words[1:])
        if row != "back":
            raise NoRow("the row begins with none of the words")
        return self.taken_back()

    def taken_back(self):
        """Takes the last deed back."""
        if not self.past:
            raise NothingDone("no deed is left")
        self.web = self.past.pop()
        return "ok"
