"""Tests of fewfetches.datatext: 2.1, 2.2."""

import itertools
import re
import unittest

from fewfetches.datatext import data_text, read_data
from tests.helpers import Odd, only_tuples, raised, seeded, unchanged

LONGEST = "abcdefghijkl"


def nested(deep):
    """A tuple of tuples, so deep."""
    data = ()
    for _ in range(deep - 1):
        data = (data,)
    return data


def plain_is_text(text):
    """Whether the text is one of data, lengths and depths aside: items are folded to x until nothing changes."""
    folded = re.sub(r"-?[1-9][0-9]*|0|[a-z]+", "X", text)
    before = None
    while folded != before:
        before = folded
        folded = re.sub(r"\[(X(,X)*)?\]", "X", folded)
    return folded == "X"


def plain_can_go_on(text):
    """Whether some text of data begins with this one."""
    ends = ["]" * many for many in range(len(text) + 1)]
    return any(plain_is_text(text + middle + end) for middle in ("", "1") for end in ends)


def plain_place(text):
    return max(length for length in range(len(text) + 1) if plain_can_go_on(text[:length]))


def random_data(chance, deep=3):
    choice = chance.randrange(4 if deep else 2)
    if choice == 0:
        return chance.choice([0, 1, -1, 7, -12, 10 ** chance.randrange(400), -10 ** chance.randrange(400)])
    if choice == 1:
        return "".join(chance.choice("abyz") for _ in range(chance.randint(1, 12)))
    return tuple(random_data(chance, deep - 1) for _ in range(chance.randrange(4)))


class TestDataText(unittest.TestCase):
    def test_each_kind_of_data(self):
        table = [(0, "0"), (7, "7"), (-7, "-7"), (10, "10"), (-100, "-100"), ("a", "a"), ("put", "put"),
                 (LONGEST, LONGEST), ((), "[]"), ((1,), "[1]"), ((1, 2), "[1,2]"), (("a", "b", 3), "[a,b,3]"),
                 ((3, "put", (-1, ())), "[3,put,[-1,[]]]"), (((), (), ((),)), "[[],[],[[]]]")]
        for data, text in table:
            self.assertEqual(data_text(data), text)
            self.assertEqual(read_data(text), data)

    def test_lists_are_tuples(self):
        data = [3, "put", [-1, [], (2, [4])]]
        self.assertEqual(unchanged(self, data_text, data), "[3,put,[-1,[],[2,[4]]]]")
        self.assertEqual(read_data("[3,put,[-1,[],[2,[4]]]]"), (3, "put", (-1, (), (2, (4,)))))
        self.assertTrue(only_tuples(read_data("[[1],[[2]]]")))

    def test_figures(self):
        for many in (1, 18, 19, 399, 400):
            for data in (10 ** (many - 1), 10 ** many - 1, -10 ** (many - 1), 1 - 10 ** many):
                self.assertEqual(data_text(data), str(data))
                self.assertEqual(read_data(str(data)), data)
        for data in (10 ** 400, -10 ** 400, 10 ** 401, 10 ** 6000, -10 ** 6000):
            self.assertEqual(raised(data_text, data), ("BadData",))
            self.assertEqual(raised(data_text, (1, (data,))), ("BadData",))

    def test_depth(self):
        for deep in (1, 2, 39, 40):
            self.assertEqual(data_text(nested(deep)), "[" * deep + "]" * deep)
            self.assertEqual(read_data("[" * deep + "]" * deep), nested(deep))
        self.assertEqual(raised(data_text, nested(41)), ("BadData",))
        self.assertEqual(raised(data_text, (1, nested(40))), ("BadData",))
        # integers and names in the deepest tuple stand no deeper
        text = "[" * 40 + "1,a" + "]" * 40
        self.assertEqual(data_text(read_data(text)), text)
        endless = []
        endless.append(endless)
        self.assertEqual(raised(data_text, endless), ("BadData",))

    def test_no_data(self):
        wrong = [None, True, False, 1.0, "", "A", "a b", "a1", "1", "abcdefghijklm", "\u00e9", "[]", b"a", {}, {1},
                 {1: 2}, Odd(), len, range(2), iter(())]
        for data in wrong:
            self.assertEqual(raised(data_text, data), ("BadData",))
            self.assertEqual(raised(data_text, (1, ["a", data])), ("BadData",))

    def test_random(self):
        chance = seeded(21)
        for _ in range(300):
            data = random_data(chance)
            self.assertEqual(read_data(data_text(data)), data)


class TestReadData(unittest.TestCase):
    def test_places_told(self):
        table = [("", 0), ("]", 0), ("01", 1), ("-0", 1), ("[,", 1), ("-", 1), ("--1", 1), ("-a", 1), ("-01", 1), (" 1", 0),
                 ("1 ", 1), ("+1", 0), ("1.0", 1), ("1a", 1), ("a1", 1), ("A", 0), ("aB", 1), ("[", 1), ("[1", 2),
                 ("[1,", 3), ("[1,]", 3), ("[1,,", 3), ("[,1]", 1), ("[1]]", 3), ("[1][", 3), ("[1 ,2]", 2), ("[1, 2]", 3),
                 ("[a", 2), ("[[]", 3), ("[[],", 4), ("[][]", 2), ("[][", 2), (",", 0), ("1,2", 1), ("(1)", 0), ("[00]", 2),
                 ("[-]", 2), ("[-0]", 2), ("[0-1]", 2), ("[1-1]", 2), ("[a-1]", 2), ("1\n", 1), ("\u0663", 0), ("1\u0663", 1),
                 ("\u00e9", 0), ("a\u00e9", 1), ("\u00b2", 0), ("None", 0), ("true ", 4), ("'a'", 0), ("[1,0x1]", 4)]
        for text, place in table:
            self.assertEqual(raised(read_data, text), ("BadText", place), text)

    def test_limits(self):
        self.assertEqual(read_data("1" * 400), int("1" * 400))
        self.assertEqual(raised(read_data, "1" * 401), ("BadText", 400))
        self.assertEqual(raised(read_data, "-" + "9" * 401), ("BadText", 401))
        self.assertEqual(raised(read_data, "[3," + "9" * 5000 + "]"), ("BadText", 403))
        self.assertEqual(read_data(LONGEST), LONGEST)
        self.assertEqual(raised(read_data, LONGEST + "m"), ("BadText", 12))
        self.assertEqual(raised(read_data, "[a," + LONGEST + "mn]"), ("BadText", 15))
        self.assertEqual(raised(read_data, "[" * 41 + "]" * 41), ("BadText", 40))
        self.assertEqual(raised(read_data, "[1,a," + "[" * 40), ("BadText", 44))
        self.assertEqual(raised(read_data, "[" * 40 + "]" * 39), ("BadText", 79))
        self.assertEqual(raised(read_data, "[" * 100000), ("BadText", 40))

    def test_no_string(self):
        for thing in (None, True, 1, b"1", b"", ["1"], ("1",), Odd(), 1.5):
            self.assertEqual(raised(read_data, thing), ("BadText", 0))

    def test_all_short_texts(self):
        for length in range(5):
            for signs in itertools.product("[],-01a", repeat=length):
                self.check("".join(signs))

    def test_spoilt_texts(self):
        chance = seeded(22)
        for _ in range(150):
            text = data_text(tuple(random_data(chance, 2) for _ in range(3)))[:60]
            at = chance.randrange(len(text))
            sign = chance.choice("[],-019az A")
            for spoilt in (text[:at], text[:at] + text[at + 1:], text[:at] + sign + text[at:],
                           text[:at] + sign + text[at + 1:]):
                if not re.search("[a-z]{13}", spoilt):
                    self.check(spoilt)

    def check(self, text):
        """Compares with the plain words; a text that is read must also be printed so."""
        if plain_is_text(text):
            self.assertEqual(data_text(read_data(text)), text)
        else:
            self.assertEqual(raised(read_data, text), ("BadText", plain_place(text)), text)


if __name__ == "__main__":
    unittest.main()
