"""Promise 30: ratios, webs, parties and ratios in rows, written and read back."""

import copy
import random
import unittest

from tests.samples import (
    MOST_GAIN, SIXTY, SameAsAll, Unruly, all_ties, mixed_webs, named_webs, odd_things, some_webs, webs_and_sharings,
)
from twainhoard.best import best
from twainhoard.errors import NoText
from twainhoard.pairings import pairings_of
from twainhoard.ratios import plus
from twainhoard.texts import (
    parties_text, ratio_text, ratios_text, read_parties, read_ratio, read_ratios, read_web, web_text,
)
from twainhoard.webs import is_web, parties

READERS = (read_ratio, read_web, read_parties, read_ratios)
SIGNS = [chr(code) for code in range(32, 127) if chr(code) != "%"]


def spoilt_texts(text, chance):
    """Texts near to that one: a sign put in, taken away, exchanged, blanks at the ends and doubled."""
    yield from (" " + text, text + " ", text.replace(" ", "  ", 1), text + "\n", "\t" + text, text.upper())
    for time in range(8):
        at = chance.randrange(len(text) + 1)
        sign = chance.choice("0123456789-/:. " + chance.choice(SIGNS))
        yield from (text[:at] + sign + text[at:], text[:at] + text[at + 1:], text[:at] + sign + text[at + 1:])


class RatioTest(unittest.TestCase):

    def test_written_out(self):
        for one, text in (
            ((0, 1), "0"), ((7, 1), "7"), ((-7, 1), "-7"), ((1, 2), "1/2"), ((-1, 2), "-1/2"), ((10, 3), "10/3"),
            ((100, 1), "100"), ((SIXTY, 1), "9" * 60), ((1, SIXTY), "1/" + "9" * 60), ((-SIXTY, 1), "-" + "9" * 60),
            ((-1, SIXTY), "-1/" + "9" * 60), ((10 ** 59, 10 ** 59 + 1), f"1{'0' * 59}/1{'0' * 58}1"),
        ):
            self.assertEqual(ratio_text(one), text)
            self.assertEqual(read_ratio(text), one)

    def test_refused(self):
        for text in (
            "", "-", "+1", "00", "01", "-0", "-01", "0/1", "0/5", "1/1", "7/1", "2/4", "6/3", "1/0", "1/-2", "-1/-2",
            "1/", "/2", "/", "1//2", "1/2/3", "1 /2", "1/ 2", " 1", "1 ", "1\n", "\n1", "1.5", "1e3", "0x1", "1_0", ".",
            "1/02", "01/2", "-0/3", "--1", "1-", "1-2", "a", "one", "1 2", "1,2", "9" * 61, "1/" + "9" * 61,
            "-" + "9" * 61, "1" + "0" * 60, "9" * 5000, "9" * 5000 + "/7", "\u0661", "\u00b2", "\u0967/2", "1\u00a0",
            "\uff11", "1/1" + "0" * 60, "0/0", "-1/1", "1/+2", "\x00", "1\x00", "1/-1",
        ):
            self.assertRaises(NoText, read_ratio, text)

    def test_read_back(self):
        chance = random.Random(161)
        for web, sharing in webs_and_sharings()[::3]:
            for one in sharing[1]:
                if max(one) <= SIXTY:
                    self.assertEqual(read_ratio(ratio_text(one)), one)
                else:
                    self.assertRaises(NoText, read_ratio, ratio_text(one))
        for time in range(300):
            top, bottom = chance.randint(-SIXTY, SIXTY), chance.choice((1, 2, 3, 7, SIXTY))
            one = plus((top, 1), (0, 1)) if bottom == 1 else plus((top // bottom // 2, 1), (1, bottom))
            if max(abs(one[0]), one[1]) <= SIXTY:
                self.assertEqual(read_ratio(ratio_text(one)), one)

    def test_whatever_figures(self):
        """What the program told may have more figures than any that are read."""
        self.assertEqual(ratio_text((10 ** 60, 1)), "1" + "0" * 60)
        self.assertEqual(ratio_text((-10 ** 120 - 7, 1)), "-1" + "0" * 119 + "7")
        self.assertEqual(ratio_text((1, 10 ** 61 + 3)), "1/1" + "0" * 60 + "3")
        self.assertEqual(ratio_text((10 ** 6000 - 1, 1)), "9" * 6000)
        for shift in range(55, 66):
            for number in (10 ** shift, 10 ** shift - 1, 10 ** shift + 1, 10 ** (2 * shift), 37 * 10 ** (3 * shift)):
                self.assertEqual(ratio_text((number, 1)), str(number))
                self.assertEqual(ratio_text((-number, 1)), str(-number))

    def test_just_what_is_written(self):
        chance, read = random.Random(162), 0
        for text in ("0", "7", "-7", "10/3", "-1/2", "99", "9" * 60, "1/" + "9" * 60):
            for time in range(20):
                for near in spoilt_texts(text, chance):
                    read += self.check(near)
        self.assertGreater(read, 50)

    def check(self, text):
        try:
            one = read_ratio(text)
        except NoText:
            return False
        self.assertEqual(ratio_text(one), text)
        return True


class WebTest(unittest.TestCase):

    def test_written_out(self):
        for web, text in (
            ((1, ()), "web 1"), ((8, ()), "web 8"), ((2, ((0, 1, 9),)), "web 2 0-1:9"),
            ((4, ((0, 1, 5), (1, 2, 7), (2, 3, 1))), "web 4 0-1:5 1-2:7 2-3:1"),
            ((8, ((0, 7, MOST_GAIN), (6, 7, 1))), "web 8 0-7:1000000000000 6-7:1"),
        ):
            self.assertEqual(web_text(web), text)
            self.assertEqual(read_web(text), web)

    def test_read_back(self):
        for web in named_webs() + some_webs() + list(mixed_webs(163, 100)):
            self.assertEqual(read_web(web_text(web)), web)

    def test_refused(self):
        for text in (
            "", "web", "web ", "web 0", "web 9", "web -1", "web 01", "web +1", "web 1 ", " web 1", "web  1", "Web 1",
            "web 1 .", "web 3 .", "web .", ".", "1", "web a", "web 1.0", "web 2 0-1", "web 2 0-1:", "web 2 0:1",
            "web 2 0-1:0", "web 2 0-1:-1", "web 2 0-1:01", "web 2 0-1:+1", "web 2 0-1:1000000000001",
            "web 2 0-1:" + "9" * 60, "web 2 0-1:" + "9" * 61, "web 2 0-1:" + "9" * 5000, "web " + "9" * 5000,
            "web 2 1-0:5", "web 2 0-0:5", "web 2 0-2:5", "web 2 -1-0:5", "web 2 0-1-1:5", "web 2 00-1:5",
            "web 2 0-01:5",
            "web 3 1-2:5 0-1:5", "web 3 0-1:5 0-1:5", "web 3 0-1:5 0-1:6", "web 3 0-1:6 0-1:5", "web 3 0-2:5 0-1:5",
            "web 3 0-1:5  1-2:5", "web 3 0-1:5 1-2:5 ", "web 3 0-1:5,1-2:5", "web 2 0-1:5\n", "web\t2", "web 2 0-1:5/2",
            "web 8 0-8:1", "web 2 0-1:5:5", "web 2 :5", "web 2 -:5", "web 2 0-:5", "web 2 -1:5", "web 2 0-1 :5", "show",
            "web 2 0-1: 5", "web 2 0 -1:5", "webs 2", "web2", "web 2 \u0660-1:5", "\u0660", "web 3 1 0-1:5",
        ):
            self.assertRaises(NoText, read_web, text)

    def test_just_what_is_written(self):
        chance, read = random.Random(164), 0
        for web in named_webs()[::2] + some_webs()[::3]:
            for near in spoilt_texts(web_text(web), chance):
                try:
                    told = read_web(near)
                except NoText:
                    continue
                self.assertTrue(is_web(told))
                self.assertEqual(web_text(told), near)
                read += 1
        self.assertGreater(read, 50)


class PartiesTest(unittest.TestCase):

    def test_written_out(self):
        for some, text in (
            ((), "."), (((0,),), "0"), (((0, 1),), "0-1"), (((0,), (1, 2), (3,)), "0 1-2 3"), (((7,),), "7"),
            (((6, 7), (0, 7), (0, 7)), "6-7 0-7 0-7"), (((3,), (0,)), "3 0"), (((5,),) * 100, " ".join("5" * 100)),
        ):
            self.assertEqual(parties_text(some), text)
            self.assertEqual(parties_text(list(some)), text)
            self.assertEqual(read_parties(text), some)

    def test_read_back(self):
        for web in named_webs() + some_webs():
            self.assertEqual(read_parties(parties_text(parties(web))), tuple(parties(web)))
            for pairing in pairings_of(web)[::41]:
                self.assertEqual(read_parties(parties_text(pairing)), pairing)
        twos = [(one, other) for one in range(8) for other in range(one + 1, 8)]
        for some in (twos, twos[::-1], twos + twos, [(one,) for one in range(8)] * 12):
            self.assertEqual(read_parties(parties_text(some)), tuple(some))

    def test_refused(self):
        for text in (
            "", " ", "0 ", " 0", "0  1", ". .", "0 .", ". 0", " .", ". ", "..", "8", "0-8", "7-8", "-1", "1-0", "0-0",
            "7-7", "0-1-2", "0-", "-", "--", "00", "01", "0-01", "00-1", "+0", "0--1", "-0", "0-1:5", "a", "0,1", "0\n",
            "0\t1", "10", "9" * 61, "9" * 5000, " ".join("5" * 101), "0/1", "0 - 1", "0- 1", "0 -1", "\u0661",
            "0\u20111",
            " ".join(["0-1"] * 101), "0 8", "0 1-0", "(0,)", "0-1\n",
        ):
            self.assertRaises(NoText, read_parties, text)

    def test_just_what_is_written(self):
        chance, read = random.Random(165), 0
        for text in (".", "0", "0-1", "0 1-2 3", "6-7 0-7 0-7 2", " ".join("5" * 100)):
            for time in range(20):
                for near in spoilt_texts(text, chance):
                    try:
                        told = read_parties(near)
                    except NoText:
                        continue
                    self.assertEqual(parties_text(told), near)
                    self.assertLessEqual(len(told), 100)
                    read += 1
        self.assertGreater(read, 50)


class RatiosTest(unittest.TestCase):

    def test_written_out(self):
        for some, text in (
            ((), "."), (((0, 1),), "0"), (((0, 1), (11, 2), (3, 2), (0, 1)), "0 11/2 3/2 0"),
            (((1, 3),) * 2, "1/3 1/3"),
            (((SIXTY, 1), (1, SIXTY)), "9" * 60 + " 1/" + "9" * 60), (((1, 2),) * 100, " ".join(["1/2"] * 100)),
        ):
            self.assertEqual(ratios_text(some), text)
            self.assertEqual(ratios_text(list(some)), text)
            self.assertEqual(read_ratios(text), some)

    def test_below_nought_is_written_but_not_read(self):
        self.assertEqual(ratios_text(((-1, 2), (3, 1))), "-1/2 3")
        for text in ("-1/2 3", "-1", "0 -1", "0 0 -1/3", "1 -7"):
            self.assertRaises(NoText, read_ratios, text)

    def test_refused(self):
        for text in (
            "", " ", "0 ", " 0", "0  1", ". .", "0 .", ". 0", "..", "1/1", "2/4", "0/3", "1/0", "1 /2", "1/ 2", "00",
            "+1", "-0", "1\t2", "1\n", "1,2", "9" * 61, "1/" + "9" * 61, " ".join("5" * 101), "a", "1 01",
            "0 9" + "9" * 60, "1-2", "\u0661", "1/-2", "9" * 5000,
        ):
            self.assertRaises(NoText, read_ratios, text)

    def test_read_back(self):
        for web, sharing in webs_and_sharings()[::3]:
            if max(max(one) for one in sharing[1]) <= SIXTY:
                self.assertEqual(read_ratios(ratios_text(sharing[1])), sharing[1])
            else:
                self.assertRaises(NoText, read_ratios, ratios_text(sharing[1]))
        for web in named_webs():
            numbers = best(web)[1][0]
            self.assertEqual(read_ratios(ratios_text(numbers)), numbers)

    def test_just_what_is_written(self):
        chance, read = random.Random(166), 0
        for text in (".", "0", "0 11/2 3/2 0", "7 7 7", "10/3", " ".join("5" * 100)):
            for time in range(20):
                for near in spoilt_texts(text, chance):
                    try:
                        told = read_ratios(near)
                    except NoText:
                        continue
                    self.assertEqual(ratios_text(told), near)
                    self.assertTrue(len(told) <= 100 and all(top >= 0 for top, bottom in told))
                    read += 1
        self.assertGreater(read, 50)


class AnythingTest(unittest.TestCase):

    def test_other_kinds(self):
        for reader in READERS:
            wrong = [Unruly(), SameAsAll(), b"0", bytearray(b"web 1"), ["0"], ("web 1",), 0, (0, 1)]
            for thing in odd_things() + wrong:
                if not isinstance(thing, str) or thing not in ("0", "0-1"):
                    with self.assertRaises(NoText):
                        reader(thing)

    def test_texts_of_the_other_readers(self):
        for text, right in (("web 1", [read_web]), ("0-1", [read_parties]), ("1/2", [read_ratio, read_ratios])):
            for reader in READERS:
                if reader in right:
                    reader(text)
                else:
                    self.assertRaises(NoText, reader, text)
        for text, readers in (("3", (read_ratio, read_parties, read_ratios)), (".", (read_parties, read_ratios))):
            for reader in READERS:
                if reader not in readers:
                    self.assertRaises(NoText, reader, text)

    def test_handed_in_stays(self):
        some = [[(0, 1), (3,)], [(1, 2), (7, 1)]]
        kept = copy.deepcopy(some)
        self.assertEqual(parties_text(some[0]), "0-1 3")
        self.assertEqual(ratios_text(some[1]), "1/2 7")
        self.assertEqual(some, kept)
        web = (8, tuple(all_ties(8)))
        self.assertEqual(web_text(web), web_text(web))
        self.assertEqual(web, (8, tuple(all_ties(8))))


if __name__ == "__main__":
    unittest.main()
