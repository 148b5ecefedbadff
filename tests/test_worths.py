"""Promises 4, 5 and 6, and what 2 says of them."""

import copy
import unittest

from handedon.errors import NoText
from handedon.worths import is_word, is_worth, is_yes, read_worth, sign_told, worth_text
from tests.samples import BOOK, NONE, ODD, paths_in, part_at

THIRTY = 10 ** 30 - 1


def number(n):
    return ("number", n)


def giver(k):
    return ("giver", k)


def signed(sign, a, b):
    return sign_told(sign, number(a), number(b))


def told(n):
    return ("worth", number(n))


KIND = ("fault", "kind")
GREAT = ("fault", "great")


class IsWorthTest(unittest.TestCase):
    def test_none_and_numbers(self):
        for worth in [NONE, number(0), number(1), number(-1), number(THIRTY), number(-THIRTY)]:
            for many in (0, 1, 100):
                self.assertIs(is_worth(worth, many), True, worth)

    def test_numbers_have_at_most_thirty_figures(self):
        for n in (THIRTY + 1, -THIRTY - 1, 10 ** 39, -(10 ** 39)):
            self.assertIs(is_worth(number(n), 100), False, n)

    def test_givers_are_below_many(self):
        for k, many in [(0, 1), (0, 100), (4, 5), (99, 100)]:
            self.assertIs(is_worth(giver(k), many), True, (k, many))
        for k, many in [(0, 0), (1, 1), (5, 5), (100, 100), (-1, 100), (-1, 0), (10 ** 35, 100)]:
            self.assertIs(is_worth(giver(k), many), False, (k, many))

    def test_a_truth_is_no_whole_number(self):
        for word in ("number", "giver"):
            for truth in (True, False):
                self.assertIs(is_worth((word, truth), 100), False)

    def test_whatever_thing(self):
        for thing in ODD + [
            ["none"], ["number", 1], ["giver", 0], "none", "number", ("none", 0), ("number", 1, 2), ("giver", 0, 0),
            ("number", "1"), ("number", None), ("number", [1]), ("giver", None), ("giver", {}), ("Number", 1),
            ("var", "x"), ("word", 1), (1, "number"), ("number", number(1)), (NONE,), (["number"], 1), ({}, 1),
        ]:
            self.assertIs(is_worth(thing, 100), False, repr(thing)[:80])


class IsWordTest(unittest.TestCase):
    def test_one_to_eight_letters(self):
        for many in range(1, 9):
            self.assertIs(is_word("z" * many), True)
        self.assertIs(is_word(""), False)
        self.assertIs(is_word("z" * 9), False)

    def test_each_letter(self):
        for letter in "abcdefghijklmnopqrstuvwxyz":
            self.assertIs(is_word(letter), True)
            self.assertIs(is_word(letter.upper()), False)
        for sign in "`{09_-. \n~@":
            self.assertIs(is_word(sign), False)
            self.assertIs(is_word("a" + sign), False)
            self.assertIs(is_word(sign + "a"), False)
        self.assertIs(is_word("\u00e9"), False)

    def test_only_any_is_shut(self):
        self.assertIs(is_word("any"), False)
        for word in ("anya", "an", "none", "close", "rule", "ring", "try"):
            self.assertIs(is_word(word), True)

    def test_whatever_thing(self):
        for thing in ODD + [("a",), ["a"], {"a": "a"}, ["a", "b"], ("a", "b")]:
            self.assertIs(is_word(thing), False, repr(thing)[:80])


class SignTest(unittest.TestCase):
    def test_sums_of_numbers(self):
        for a in (-12, -1, 0, 1, 2, 30):
            for b in (-7, -1, 0, 1, 2, 30):
                self.assertEqual(signed("+", a, b), told(a + b))
                self.assertEqual(signed("-", a, b), told(a - b))
                self.assertEqual(signed("*", a, b), told(a * b))

    def test_great_beyond_thirty_figures(self):
        self.assertEqual(signed("+", THIRTY - 1, 1), told(THIRTY))
        self.assertEqual(signed("+", THIRTY, 1), GREAT)
        self.assertEqual(signed("+", -THIRTY, -1), GREAT)
        self.assertEqual(signed("-", -THIRTY + 1, 1), told(-THIRTY))
        self.assertEqual(signed("-", -THIRTY, 1), GREAT)
        self.assertEqual(signed("-", THIRTY, -1), GREAT)
        self.assertEqual(signed("*", 10 ** 15, 10 ** 14), told(10 ** 29))
        self.assertEqual(signed("*", 10 ** 15, 10 ** 15), GREAT)
        self.assertEqual(signed("*", -(10 ** 15), 10 ** 15), GREAT)
        self.assertEqual(signed("*", THIRTY, -1), told(-THIRTY))
        self.assertEqual(signed("-", THIRTY, THIRTY), told(0))

    def test_less(self):
        for a in (-THIRTY, -1, 0, 1, THIRTY):
            for b in (-THIRTY, -1, 0, 1, THIRTY):
                self.assertEqual(signed("<", a, b), told(1 if a < b else 0))

    def test_kind_where_one_is_no_number(self):
        others = [NONE, giver(0), giver(3)]
        for sign in "+-*<":
            for other in others:
                self.assertEqual(sign_told(sign, other, number(1)), KIND)
                self.assertEqual(sign_told(sign, number(1), other), KIND)
                for another in others:
                    self.assertEqual(sign_told(sign, other, another), KIND)

    def test_same_of_any_two(self):
        worths = [NONE, number(0), number(1), number(-1), number(THIRTY), giver(0), giver(1)]
        for at, a in enumerate(worths):
            for also, b in enumerate(worths):
                self.assertEqual(sign_told("=", a, b), told(1 if at == also else 0))

    def test_numbers_in_what_is_told_are_no_truths(self):
        for sign in "<=":
            for b in (0, 1):
                n = signed(sign, 0, b)[1][1]
                self.assertNotIsInstance(n, bool)
                self.assertIsInstance(n, int)

    def test_yes_and_no(self):
        for worth in (NONE, number(0)):
            self.assertIs(is_yes(worth), False)
        for worth in (number(1), number(-1), number(THIRTY), giver(0), giver(1)):
            self.assertIs(is_yes(worth), True)


WRITTEN = [
    (NONE, "none"), (number(0), "0"), (number(7), "7"), (number(-7), "-7"), (number(10), "10"),
    (number(THIRTY), "9" * 30), (number(-THIRTY), "-" + "9" * 30), (giver(0), "#0"), (giver(9), "#9"),
    (giver(10), "#10"), (giver(99), "#99"),
]
UNWRITTEN = [
    "", " ", "-", "#", "-0", "00", "01", "-01", "-00", "+1", "--1", "1-", " 1", "1 ", "1\n", "\n1", "1 2", "1_0", "1.0",
    "1" * 31, "-" + "1" * 31, "0" * 30, "1" * 40000, "#-1", "#-0", "#00", "#01", "#100", "#" + "1" * 40000, "##1",
    "#1 ", "# 1", "#none", "None", "NONE", "none ", " none", "none\n", "non", "nonee", "x", "a1", "0x1", "1e3",
    "\u0661", "#\u0661", "\u00b2", "True", "False",
]


class TextTest(unittest.TestCase):
    def test_written(self):
        for worth, text in WRITTEN:
            self.assertEqual(worth_text(worth), text)

    def test_read(self):
        for worth, text in WRITTEN:
            self.assertEqual(read_worth(text), worth)
            self.assertIs(type(read_worth(text)), tuple)

    def test_each_giver_is_read_back(self):
        for k in range(100):
            self.assertEqual(read_worth(worth_text(giver(k))), giver(k))

    def test_all_short_texts(self):
        signs = "019-#ne \n"
        texts = [""]
        for _ in range(3):
            texts += [text + sign for text in texts for sign in signs]
        readable = {str(n) for n in range(-99, 1000)} | {f"#{k}" for k in range(100)} | {"none"}
        for text in set(texts):
            with self.subTest(text):
                if text in readable:
                    self.assertEqual(worth_text(read_worth(text)), text)
                else:
                    self.refused(text)

    def refused(self, thing):
        with self.assertRaises(NoText) as caught:
            read_worth(thing)
        self.assertEqual(caught.exception.at, 0)
        self.assertIs(type(caught.exception.at), int)

    def test_else_no_text(self):
        for thing in UNWRITTEN + [text for worth, text in WRITTEN for text in ([text], (text,), {text: text})]:
            with self.subTest(repr(thing)[:80]):
                self.refused(thing)

    def test_of_whatever_thing(self):
        for thing in ODD:
            with self.subTest(repr(thing)[:80]):
                self.refused(thing)
        for worth, text in WRITTEN:
            self.refused(worth)


class AllOfItTest(unittest.TestCase):
    def test_asked_twice_told_alike_and_nothing_changed(self):
        things = ODD + [part_at(BOOK, path) for path in paths_in(BOOK)]
        kept = copy.deepcopy(things)
        first = [(is_worth(thing, 50), is_word(thing)) for thing in things]
        second = [(is_worth(thing, 50), is_word(thing)) for thing in things]
        self.assertEqual(first, second)
        self.assertEqual(repr(things), repr(kept))


if __name__ == "__main__":
    unittest.main()
