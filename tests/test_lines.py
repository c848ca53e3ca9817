import re
import unittest

from keenscale.errors import BadLine, BadSay
from keenscale.lines import read, shown
from tests.helper import BIG, draws, every_saying, every_sayings, whole

SIGNS = [chr(code) for code in range(ord(" "), ord("~") + 1) if chr(code) != "%"]
NUMBER = "(?:0|[1-9][0-9]*)"
LINE = re.compile(f"({NUMBER}):((?: {NUMBER}>{NUMBER})*)")


def meant(text):
    """What a text of the form tells, or None: by a pattern, in another way than the program."""
    match = LINE.fullmatch(text)
    if match is None or len(match.group(1)) > 2:
        return None
    many = int(match.group(1))
    pairs = [tuple(word.split(">")) for word in match.group(2).split()]
    if not 1 <= many <= 12 or len(pairs) > 200:
        return None
    if any(len(thing) > 2 or int(thing) >= many for pair in pairs for thing in pair):
        return None
    return (many, [(int(one), int(other)) for one, other in pairs])


def one_sign_off(text):
    """The texts with one sign put in, left out, or put in the place of another."""
    for place in range(len(text) + 1):
        for sign in SIGNS:
            yield text[:place] + sign + text[place:]
            yield text[:place] + sign + text[place + 1:]
        yield text[:place] + text[place + 1:]


class Shown(unittest.TestCase):
    def test_as_the_document_writes_it(self):
        self.assertEqual(shown(3, [(0, 1), (2, 0)]), "3: 0>1 2>0")

    def test_no_saying(self):
        self.assertEqual(shown(1, []), "1:")
        self.assertEqual(shown(12, []), "12:")

    def test_in_their_order_and_twice(self):
        pairs = [(11, 10), (0, 0), (11, 10), (0, 11)]
        self.assertEqual(shown(12, pairs), "12: 11>10 0>0 11>10 0>11")

    def test_two_hundred(self):
        self.assertEqual(shown(2, [(1, 0)] * 200), "2:" + " 1>0" * 200)

    def test_a_thing_that_is_not_there(self):
        for many in (1, 2, 12):
            for stranger in (-1, many, BIG, -BIG):
                for pair in ((stranger, 0), (0, stranger)):
                    with self.assertRaises(BadSay):
                        shown(many, [(0, 0), pair])


class Read(unittest.TestCase):
    def look(self, text):
        want = meant(text)
        if want is None:
            with self.assertRaises(BadLine, msg=repr(text)):
                read(text)
        else:
            self.assertEqual(read(text), want, text)
            self.assertEqual(shown(*read(text)), text)

    def refused(self, *texts):
        for text in texts:
            with self.subTest(text=text[:40]):
                self.assertIsNone(meant(text))
                with self.assertRaises(BadLine):
                    read(text)

    def test_kinds(self):
        told = read("3: 0>1 2>0")
        self.assertEqual(told, (3, [(0, 1), (2, 0)]))
        self.assertIsInstance(told, tuple)
        self.assertIsInstance(told[1], list)
        self.assertTrue(all(isinstance(pair, tuple) for pair in told[1]))
        self.assertTrue(whole(told[0]) and all(whole(thing) for pair in told[1] for thing in pair))

    def test_no_saying(self):
        for many in range(1, 13):
            self.assertEqual(read(f"{many}:"), (many, []))

    def test_what_is_written_is_read_back(self):
        for many in (1, 2):
            for pairs in every_sayings(many):
                self.assertEqual(read(shown(many, pairs)), (many, pairs))
        draw = draws(77)
        for many in range(1, 13):
            for count in (1, 2, 7, 50, 199, 200):
                pairs = [(next(draw) % many, next(draw) % many) for time in range(count)]
                self.assertEqual(read(shown(many, pairs)), (many, pairs))
                self.assertEqual(read(shown(many, pairs[:5] * 2)), (many, pairs[:5] * 2))

    def test_every_saying_of_twelve_things(self):
        for one, other in every_saying(12):
            self.assertEqual(read(f"12: {one}>{other}"), (12, [(one, other)]))

    def test_a_nought_ahead(self):
        self.refused("03: 0>1", "3: 00>1", "3: 0>01", "00:", "012: 0>1", "3: 0>00", "12: 011>1")

    def test_blanks(self):
        self.refused(
            " 3: 0>1", "3 : 0>1", "3:0>1", "3:  0>1", "3: 0 >1", "3: 0> 1", "3: 0>1 ", "3: ", "3: 0>1  2>0",
            "3: 0>12>0", "3:  ", "3: 0>1 2>0 ", " ", " 3:", "3 :",
        )

    def test_signs_that_are_no_figures(self):
        self.refused(
            "x: 0>1", "3: x>1", "3: 0>x", "+3: 0>1", "-3:", "3: +0>1", "3: -0>1", "3: 0>-1", "3: 0>+1", "1_2: 0>1",
            "12: 1_1>0", "3: 0<1", "3: 0=1", "3; 0>1", "3.0:", "3: 0>1,2>0", "3: (0>1)", "0x3:", "3: 1e0>0",
        )

    def test_no_colon_or_more(self):
        self.refused("3", "3 0>1", "0>1", "3:: 0>1", ": 0>1", ":", "3: 0>1:", "3: 0>1 3: 0>1", "3: 0:1")

    def test_half_a_saying(self):
        self.refused("3: 0", "3: 0>", "3: >1", "3: >", "3: 0>1>2", "3: 0>>1", "3: 01", "3: 0>1 2")

    def test_a_thing_that_is_not_there(self):
        self.refused("3: 3>0", "3: 0>3", "1: 0>1", "12: 12>0", "12: 0>12", "2: 0>1 1>2", "3: 0>10", "12: 100>0")

    def test_no_thing_or_too_many(self):
        self.refused("0:", "0: 0>0", "13:", "13: 0>1", "20: 0>1", "100:", "112:", "121:")

    def test_too_many_sayings(self):
        for many, word in ((1, " 0>0"), (12, " 11>10")):
            self.assertEqual(len(read(f"{many}:" + word * 200)[1]), 200)
            self.refused(f"{many}:" + word * 201, f"{many}:" + word * 1000)
        texts = " ".join(f"{one}>{other}" for one, other in (every_saying(12) * 2)[:201])
        self.refused(f"12: {texts}")

    def test_an_empty_text(self):
        self.refused("")

    def test_numbers_of_many_figures(self):
        for figures in (3, 40, 400, 4300, 4301, 20000):
            for number in ("9" * figures, "1" + "0" * (figures - 1), "0" * figures):
                self.refused(f"{number}:", f"3: {number}>1", f"3: 0>{number}", f"-{number}:", number)

    def test_one_sign_off(self):
        texts = ("1:", "12:", "2: 0>1", "3: 0>1 2>0", "12: 11>0 10>11 1>1", "10: 9>9 0>1", "11: 10>10")
        for text in texts:
            self.look(text)
            for other in one_sign_off(text):
                self.look(other)

    def test_one_sign_off_at_two_hundred_sayings(self):
        text = "3:" + " 0>1" * 198 + " 2>0 1>2"
        self.look(text)
        for place in (0, 1, 2, 3, 4, 5, 6, len(text) - 2, len(text) - 1, len(text)):
            for sign in SIGNS:
                self.look(text[:place] + sign + text[place:])
                self.look(text[:place] + sign + text[place + 1:])
            self.look(text[:place] + text[place + 1:])

    def test_short_texts_all_gone_through(self):
        signs = "01 :>-"
        texts = [""]
        for length in range(7):
            for text in texts:
                self.look(text)
            texts = [text + sign for text in texts for sign in signs]


if __name__ == "__main__":
    unittest.main()
