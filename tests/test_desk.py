"""Promises 31 and 32: a desk, its rows, and what it refuses."""

import itertools
import random
import unittest

from tests.samples import MOST_GAIN, SIXTY, firm_webs, mixed_webs, most_worth, named_webs, ring, web_of
from tests.test_sides import all_sides, sided_webs
from twainhoard.desk import Desk
from twainhoard.errors import Barred, NoParty, NoRow, NoSides, NothingDone
from twainhoard.evenest import evenest
from twainhoard.firm import firm, gift
from twainhoard.gains import barred_gains, from_gain, last_worth, put_gain
from twainhoard.most import side_most
from twainhoard.ranges import greatest_slack, least_slack
from twainhoard.sides import two_sides
from twainhoard.texts import parties_text, ratio_text, ratios_text, web_text
from twainhoard.webs import parties, without

PATH = "web 4 0-1:5 1-2:7 2-3:1"
ROUND = "web 3 0-1:2 0-2:2 1-2:2"
QUESTIONS = ("show", "best", "firm", "gift", "evenest", "sides")


def desk_with(*rows):
    """A desk that was told these rows."""
    desk = Desk()
    for row in rows:
        assert desk.say(row) == "ok"
    return desk


def answer(web, row):
    """What a question is answered by the functions: a text, or the class of the error."""
    word, *rest = row.split(" ")
    numbers = [int(one) for one in rest] if word in ("last", "from", "bars", "most") else []
    party = tuple(int(one) for one in rest[0].split("-")) if word in ("least", "greatest") else ()
    try:
        return {
            "show": lambda: web_text(web), "best": lambda: str(most_worth(web)), "firm": lambda: firm(web)[0],
            "gift": lambda: ratio_text(gift(web)), "least": lambda: ratio_text(least_slack(web, party)[0]),
            "greatest": lambda: ratio_text(greatest_slack(web, party)[0]),
            "evenest": lambda: ratios_text(evenest(web)[1]), "last": lambda: str(last_worth(web, *numbers)),
            "from": lambda: str(from_gain(web, *numbers)), "bars": lambda: bars_text(barred_gains(web, *numbers)),
            "sides": lambda: sides_text(two_sides(web)),
            "most": lambda: ratios_text(side_most(web, tuple(numbers))[1]),
        }[word]()
    except (NoParty, Barred, NoSides) as refusal:
        return type(refusal)


def bars_text(told):
    return "none" if told is None else f"{told[0]} {'-' if told[1] is None else told[1]}"


def sides_text(told):
    return " ".join(["sides"] + [str(one) for one in told[1]]) if told[0] == "sides" else "round"


class RowsTest(unittest.TestCase):

    def asked(self, desk, row, expected):
        self.assertIs(type(desk.say(row)), str)
        self.assertEqual(desk.say(row), expected, row)

    def test_at_first(self):
        desk = Desk()
        for row, expected in (
            ("show", "web 1"), ("best", "0"), ("firm", "firm"), ("gift", "0"), ("least 0", "0"), ("greatest 0", "0"),
            ("evenest", "0"), ("last 0", "0"), ("sides", "sides 0"), ("most", "0"), ("most 0", "0"),
        ):
            self.asked(desk, row, expected)

    def test_written_out(self):
        desk = desk_with(PATH)
        for row, expected in (
            ("show", PATH), ("best", "7"), ("firm", "firm"), ("gift", "0"), ("least 1", "5"), ("greatest 1", "6"),
            ("least 1-2", "0"), ("greatest 0-1", "1"), ("evenest", "0 11/2 3/2 0"), ("last 1", "6"), ("last 2", "2"),
            ("from 0 1", "6"), ("from 1 0", "6"), ("from 3 1", "7"), ("bars 0 1", "none"), ("bars 2 0", "3 11"),
            ("sides", "sides 0 2"), ("most 0 2", "0 5 2 0"), ("most 1 3", "0 6 1 0"),
        ):
            self.asked(desk, row, expected)

    def test_written_out_of_a_barred_web(self):
        desk = desk_with(ROUND)
        for row, expected in (
            ("show", ROUND), ("best", "2"), ("firm", "barred"), ("gift", "1"), ("last 1", "0"), ("from 0 1", "2"),
            ("bars 1 0", "1 3"), ("sides", "round"),
        ):
            self.asked(desk, row, expected)
        self.asked(desk_with("web 5 0-1:2 0-2:2 1-2:2"), "bars 3 4", "0 -")
        self.asked(desk_with("web 3 0-1:1 0-2:1 1-2:1"), "gift", "1/2")
        self.asked(desk_with("web 3 0-1:1000000000000 1-2:1000000000000"), "bars 0 2", "1 1999999999999")

    def test_without_ties(self):
        desk = desk_with("web 3")
        for row, expected in (
            ("show", "web 3"), ("sides", "sides 0 1 2"), ("most", "0 0 0"), ("most 1", "0 0 0"),
            ("most 0 1 2", "0 0 0"), ("evenest", "0 0 0"), ("bars 0 2", "none"), ("from 2 1", "0"),
        ):
            self.asked(desk, row, expected)

    def test_deeds(self):
        desk = Desk()
        for row, web in (
            ("web 4", "web 4"), ("put 0 1 5", "web 4 0-1:5"), ("put 2 1 7", "web 4 0-1:5 1-2:7"),
            ("put 2 3 1", PATH), ("put 1 0 0", "web 4 1-2:7 2-3:1"),
            ("put 3 2 1000000000000", "web 4 1-2:7 2-3:1000000000000"),
            ("leave 1", "web 4 2-3:1000000000000"), ("leave 0", "web 4 2-3:1000000000000"), ("leave 2", "web 4"),
            ("put 0 3 0", "web 4"), (PATH, PATH), ("web 1", "web 1"), ("leave 0", "web 1"), (ROUND, ROUND),
        ):
            self.assertEqual(desk.say(row), "ok")
            self.asked(desk, "show", web)

    def test_back(self):
        rows = ["web 4", "put 0 1 5", "put 0 1 5", "leave 3", "put 2 3 0", PATH, PATH, "leave 1", "web 1", ROUND]
        desk, seen = Desk(), []
        for row in rows:
            seen.append(desk.say("show"))
            desk.say(row)
        for web in seen[::-1]:
            self.assertEqual(desk.say("back"), "ok")
            self.asked(desk, "show", web)
        self.assertEqual(desk.say("show"), "web 1")
        self.assertRaises(NothingDone, desk.say, "back")
        self.assertEqual(desk.say("show"), "web 1")

    def test_back_is_no_deed(self):
        desk = desk_with("web 2", "web 3", "web 4")
        for row, web in zip(("back", "back", "web 5", "back", "back"), ("web 3", "web 2", "web 5", "web 2", "web 1")):
            desk.say(row)
            self.asked(desk, "show", web)
        self.assertRaises(NothingDone, desk.say, "back")

    def test_questions_are_no_deeds(self):
        desk = desk_with(PATH)
        for row in QUESTIONS + ("least 0", "greatest 0-1", "last 0", "from 0 1", "bars 0 1", "most 0 2"):
            desk.say(row)
        self.assertEqual(desk.say("back"), "ok")
        self.assertRaises(NothingDone, desk.say, "back")

    def test_two_desks(self):
        one, other = Desk(), Desk()
        one.say(PATH)
        self.assertEqual((one.say("show"), other.say("show")), (PATH, "web 1"))
        other.say(ROUND)
        self.assertEqual((one.say("firm"), other.say("firm")), ("firm", "barred"))
        one.say("back")
        self.assertEqual((one.say("show"), other.say("show")), ("web 1", ROUND))
        self.assertRaises(NothingDone, one.say, "back")
        self.assertEqual(other.say("back"), "ok")

    def test_as_the_functions_tell(self):
        for web in named_webs()[::2] + list(mixed_webs(171, 25)) + list(sided_webs(172, 15)):
            desk = desk_with(web_text(web))
            people = range(web[0])
            rows = list(QUESTIONS) + [f"last {one}" for one in people]
            rows += [f"{word} {one} {other}" for word in ("from", "bars") for one in people for other in people
                     if one != other and (one + 2 * other) % 5 == 0]
            rows += [f"{word} {parties_text([party])}" for word in ("least", "greatest") for party in parties(web)[::3]]
            rows += [f"least {one}-{other}" for one, other in itertools.combinations(people, 2)][::4]
            rows += [" ".join(["most"] + [str(one) for one in side]) for side in all_sides(web)[:3] + [(), (0,)]]
            for row in rows:
                expected = answer(web, row)
                if isinstance(expected, str):
                    self.asked(desk, row, expected)
                else:
                    self.assertRaises(expected, desk.say, row)
                self.assertEqual(desk.say("show"), web_text(web))

    def test_of_the_web_as_it_is_then(self):
        """A long talk by chance, beside a web and the past webs kept here."""
        chance = random.Random(173)
        for time in range(12):
            desk, web, past = Desk(), (1, ()), []
            for turn in range(60):
                row, changed = self.some_deed(web, chance)
                if row == "back":
                    if past:
                        self.assertEqual(desk.say(row), "ok")
                        web = past.pop()
                    else:
                        self.assertRaises(NothingDone, desk.say, row)
                else:
                    self.assertEqual(desk.say(row), "ok")
                    past.append(web)
                    web = changed
                self.asked(desk, "show", web_text(web))
                row = chance.choice(QUESTIONS[1:] + ("last 0", "least 0", "greatest 0", "most 0"))
                expected = answer(web, row)
                if isinstance(expected, str):
                    self.asked(desk, row, expected)
                else:
                    self.assertRaises(expected, desk.say, row)
            for web in past[::-1]:
                self.assertEqual(desk.say("back"), "ok")
                self.asked(desk, "show", web_text(web))
            self.assertRaises(NothingDone, desk.say, "back")

    def some_deed(self, web, chance):
        word = chance.choice(("web", "put", "put", "put", "put", "leave", "back"))
        if word == "back":
            return word, None
        if word == "web" or web[0] == 1 and word == "put":
            changed = next(mixed_webs(chance.randrange(10 ** 6), 1))
            return web_text(changed), changed
        if word == "leave":
            person = chance.randrange(web[0])
            return f"leave {person}", without(web, person)
        one, other = chance.sample(range(web[0]), 2)
        gain = chance.choice((0, 1, 2, 3, 9, MOST_GAIN))
        return f"put {one} {other} {gain}", put_gain(web, one, other, gain)


class RefusalTest(unittest.TestCase):

    def refused(self, desk, row, error):
        """The refusal, and behind it the web and the deeds as they were."""
        ahead = desk.say("show")
        with self.assertRaises(error) as caught:
            desk.say(row)
        self.assertIs(type(caught.exception), error)
        self.assertEqual(desk.say("show"), ahead)

    def test_no_row(self):
        desk = desk_with(PATH)
        for row in (
            "", " ", "  ", "hello", "Show", "SHOW", "show ", " show", "show 1", "show show", "show  ", "show\n",
            "\tshow", "best ", "best 0", "firm 1", " firm", "gift 0", "evenest 0", "evenest ", "sides 0", "sides ",
            "round", "none", "ok", "web", "web ", "web 0", "web 9", "web 01", "web  4", "web 4 ", "web 4 .",
            "web 4 0-1", "web 4 0-4:1", "web 4 1-0:5", "web 4 0-1:0", "web 4 0-1:1000000000001", "web 4 1-2:1 0-1:1",
            "web 4 0-1:1 0-1:1", "web 4  0-1:1", "web 4 0-1:01", "web 4 0-0:1", "web 4 0-1:5 0-1:6", "web a",
            "web -1", "web " + "9" * 5000, "web +4", "put", "put 0", "put 0 1", "put 0 1 ", "put 0 1 2 3",
            "put 0 0 5", "put 0 4 5", "put 4 0 5", "put -1 0 5", "put 0 1 -1", "put 0 1 1000000000001", "put 0 1 05",
            "put 0 1 +5", "put 00 1 5", "put 0 01 5", "put 0  1 5", "put 0 1  5", "put 0 1 5 ", "put 0-1 5",
            "put a b 5", "put 0 1 x", "put 0 1 5/2", "put 0 1 " + "9" * 61, "put 0 1 " + "9" * 5000, "put 0 1 -0",
            "put 0 1 \u0665", " put 0 1 5", "leave", "leave ", "leave 4", "leave -1", "leave 00", "leave 0 1",
            "leave 0 ", "leave  0", "leave a", "leave 0-1", "leave " + "9" * 61, "leave \u0660", "back ", " back",
            "back 1", "back back", "Back", "least", "least ", "least 4", "least 0-4", "least 1-0", "least 0-0",
            "least 0 1", "least 00", "least 0-1 ", "least  0-1", "least 0-1-2", "least -1", "least 0-", "least .",
            "least 0:1", "least 4-5", "greatest", "greatest 4", "greatest 1-0", "greatest 0-1 1-2", "greatest 0-7",
            "greatest 0-8", "greatest a", "last", "last ", "last 4", "last 0 1", "last 0-1", "last 00", "last -0",
            "from", "from 0", "from 0 0", "from 0 4", "from 0 1 2", "from 0-1", "from 0  1", "from 4 4", "bars",
            "bars 0", "bars 0 0", "bars 4 0", "bars 0 1 2", "bars 0-1", "bars 0 1 ", "most ", "most 2 0", "most 0 0",
            "most 0 2 2", "most 0 4", "most 0-2", "most 0  2", "most 0 2 ", "most .", "most 00", "most a", "most 3 1",
            "most -1 0", "evenest\n", "show;", "least0", "put,0,1,5", "web4", "best best", "'show'", "show\x00",
            "\u00a0show", "sho", "shows",
        ):
            self.refused(desk, row, NoRow)
        self.assertEqual(desk.say("back"), "ok")
        self.assertEqual(desk.say("show"), "web 1")

    def test_people_of_the_web_as_it_is_then(self):
        desk = desk_with(PATH, "web 2")
        for row in ("leave 2", "put 0 2 1", "least 2", "least 0-2", "last 3", "from 1 2", "bars 2 0", "most 2"):
            self.refused(desk, row, NoRow)
        desk.say("back")
        for row in ("last 3", "from 1 2", "least 2-3", "bars 2 0", "least 2"):
            desk.say(row)

    def test_no_party(self):
        for desk in (desk_with(PATH), desk_with("web 4"), desk_with("web 4 0-1:2 0-2:2 1-2:2")):
            for word in ("least", "greatest"):
                for two in ("0-3", "1-3"):
                    self.refused(desk, f"{word} {two}", NoParty)

    def test_no_party_goes_ahead_of_barred(self):
        desk = desk_with("web 4 0-1:2 0-2:2 1-2:2")
        self.refused(desk, "least 0-3", NoParty)
        self.refused(desk, "least 0-1", Barred)
        self.refused(desk, "least 3", Barred)
        self.refused(desk, "least 3-0", NoRow)
        self.refused(desk, "greatest 0-4", NoRow)
        self.refused(desk, "greatest 2-3", NoParty)
        self.refused(desk, "greatest 2", Barred)

    def test_nothing_done(self):
        desk = Desk()
        self.refused(desk, "back", NothingDone)
        self.refused(desk, "back", NothingDone)
        desk.say("leave 0")
        self.assertEqual(desk.say("back"), "ok")
        self.refused(desk, "back", NothingDone)

    def test_barred(self):
        for row in (ROUND, "web 5 0-1:1 0-4:1 1-2:1 2-3:1 3-4:1", "web 8 0-1:9 2-3:1 2-4:1 3-4:1"):
            desk = desk_with(row)
            for ask in ("evenest", "least 0", "greatest 0", "least 0-1", "greatest 0-1"):
                self.refused(desk, ask, Barred)
            self.assertEqual(desk.say("firm"), "barred")

    def test_no_sides(self):
        desk = desk_with(PATH)
        for row in ("most", "most 0", "most 0 3", "most 1 2", "most 0 1 2 3", "most 2"):
            self.refused(desk, row, NoSides)
        desk = desk_with(ROUND)
        for many in range(4):
            for side in itertools.combinations("012", many):
                self.refused(desk, " ".join(("most",) + side), NoSides)

    def test_refused_deeds_are_not_taken_back(self):
        desk = desk_with(PATH, "put 0 1 6")
        for row in ("put 0 1", "web 9", "leave 4", "put 0 0 1", "web", "leave", "show 1", "least 0-3", "most 0"):
            self.assertRaises((NoRow, NoParty, NoSides), desk.say, row)
        self.assertEqual(desk.say("back"), "ok")
        self.assertEqual(desk.say("show"), PATH)
        self.assertEqual(desk.say("back"), "ok")
        self.refused(desk, "back", NothingDone)

    def test_any_text(self):
        chance, desk = random.Random(174), desk_with(PATH)
        words = ("show", "best", "put", "web", "leave", "least", "most", "bars")
        words += ("0", "1", "2-3", "0-1:5", "4", ".", "", "-")
        for time in range(3000):
            row = " ".join(chance.choice(words) for word in range(chance.randint(0, 4)))
            try:
                told = desk.say(row)
            except (NoRow, NoParty, NoSides, NothingDone, Barred):
                continue
            self.assertIs(type(told), str)
            self.assertRegex(told, r"\A[ -~]+\Z")


class WholeTest(unittest.TestCase):

    def test_long_numbers_and_eight_people(self):
        web = web_of(8, [(one, other, MOST_GAIN - one - other) for one in range(4) for other in range(4, 8)])
        desk = desk_with(web_text(web))
        self.assertEqual(desk.say("show"), web_text(web))
        self.assertEqual(desk.say("best"), str(most_worth(web)))
        for row in QUESTIONS + ("least 0-4", "greatest 7", "bars 0 1", "from 0 7", "most 0 1 2 3", "most 4 5 6 7"):
            self.assertEqual(desk.say(row), answer(web, row))
        self.assertRaises(NoRow, desk.say, f"put 0 1 {SIXTY}")

    def test_firm_webs_by_their_ties(self):
        """Webs put together tie by tie are the same as those told at once."""
        for web in firm_webs(named_webs())[::4]:
            desk = desk_with(f"web {web[0]}", *(f"put {other} {one} {gain}" for one, other, gain in web[1][::-1]))
            self.assertEqual(desk.say("show"), web_text(web))
            self.assertEqual(desk.say("evenest"), ratios_text(evenest(web)[1]))
        self.assertEqual(desk_with(web_text(web_of(3, ring(3, (2,))))).say("show"), ROUND)


if __name__ == "__main__":
    unittest.main()
