"""Sums as texts [8]."""

import re
import unittest

import oracles
from shuffledcuts.errors import CutError, NotText
from shuffledcuts.texts import read_sum, written

TERM = r"(?:[1-9][0-9]*)?\((?:[1-9][0-9]*(?: [1-9][0-9]*)*)?\)"
TEXT = re.compile(rf"0|-?{TERM}(?: [+-] {TERM})*")
PART = re.compile(r"(-| - | \+ |)([0-9]*)\(([^)]*)\)")
TAILS = ["", "()", ")", "1)", "+ ()", "- ()", " ()"]
SIGNS = list("0123456789()+-") + [" ", "  ", "\n", "\t", "x", ",", ".", "\u0661", "\u00b2", "\u2212", "\u00a0", "\uff08",
                                  "\U0001f600", "\x00"]
BASES = [
    "0", "()", "-()", "1()", "(1)", "-(1 2) + 3(2 1)", "10(1 2 3) - 1(1) + ()", "2(10) - 30(5 5) + (1 9)",
    "1000000000(1) - 999999999(2)", "(1 1 1 1 1 1 1 1 1 1) + 7(9 1)", "-12(3 4) - 1(2 7 1)",
]


def terms(text):
    found = []
    for sign, factor, entries in PART.findall(text):
        number = (-1 if "-" in sign else 1) * int(factor or 1)
        found.append((tuple(int(entry) for entry in entries.split()), number))
    return found


def is_text(text):
    if not TEXT.fullmatch(text):
        return False
    rows = terms(text)
    return len(rows) <= 200 and all(sum(c) <= 10 and abs(k) <= 10 ** 9 for c, k in rows)


def longest_beginning(text):
    """The length of the longest beginning that some tail makes a text."""
    for length in range(len(text), -1, -1):
        if any(is_text(text[:length] + tail) for tail in TAILS):
            return length
    raise AssertionError("the empty string begins a text")


class Written(unittest.TestCase):
    def test_written(self):
        for one, text in [
                ((((1, 2), -1), ((2, 1), 3)), "-(1 2) + 3(2 1)"),
                ((), "0"), ((((), 1),), "()"), ((((), -1),), "-()"), ((((), 2),), "2()"), ((((), -2),), "-2()"),
                ((((10,), 1),), "(10)"), ((((1,), -7), ((2,), -1), ((3,), 1), ((4,), 12)), "-7(1) - (2) + (3) + 12(4)"),
                ((((), 5), ((1,), -3)), "5() - 3(1)"), ((((1,), 1), ((1, 1), 1)), "(1) + (1 1)"),
                ((((1,) * 10, 10 ** 30),), "1" + "0" * 30 + "(1 1 1 1 1 1 1 1 1 1)"),
                ((((3,), -(10 ** 9)),), "-1000000000(3)")]:
            self.assertEqual(written(one), text)
            self.assertIs(type(written(one)), str)

    def test_what_written_gives_is_read_back(self):
        for one in oracles.sample_sums(oracles.compositions_up_to(7), 40, 100, "texts"):
            one = tuple((thing, max(min(k, 10 ** 9), -(10 ** 9))) for thing, k in one)
            self.assertEqual(read_sum(written(one)), one)
            self.assertTrue(is_text(written(one)))
        for composition in oracles.compositions_up_to(10):
            for k in (1, -1, 2, -(10 ** 9)):
                self.assertEqual(read_sum(written(((composition, k),))), ((composition, k),))


class ReadSum(unittest.TestCase):
    def check(self, text):
        with self.subTest(text=text):
            if is_text(text):
                found = read_sum(text)
                self.assertEqual(found, oracles.total(terms(text)))
                self.assertTrue(oracles.is_sum(found))
            else:
                self.check_place(text, longest_beginning(text))

    def check_place(self, text, place):
        with self.subTest(text=text):
            with self.assertRaises(CutError) as caught:
                read_sum(text)
            self.assertIs(type(caught.exception), NotText)
            self.assertEqual(caught.exception.place, place)

    def test_texts(self):
        for text, one in [
                ("0", ()), ("()", (((), 1),)), ("-()", (((), -1),)), ("1()", (((), 1),)), ("-1(1)", (((1,), -1),)),
                ("(2) + (1)", (((1,), 1), ((2,), 1))), ("(1) - (1)", ()), ("(1) - 1(1) + 2(2) - 2(2)", ()),
                ("3(1) + (2) + 4(1)", (((1,), 7), ((2,), 1))), ("-5(1) + 2(1)", (((1,), -3),)),
                ("1000000000(4 6)", (((4, 6), 10 ** 9),)),
                ("1000000000(1) + 1000000000(1)", (((1,), 2 * 10 ** 9),)),
                ("(3 1) + (1 3) - (2 2)", (((1, 3), 1), ((2, 2), -1), ((3, 1), 1)))]:
            self.assertEqual(read_sum(text), one)
            self.assertTrue(oracles.is_plain(read_sum(text)))

    def test_places(self):
        for text, place in [
                ("", 0), ("-", 1), ("00", 1), ("0 ", 1), ("0()", 1), ("-0", 1), ("+()", 0), (" ()", 0), ("()+()", 2),
                ("() ", 3), ("()  + ()", 3), ("() + ", 5), ("() +", 4), ("() +()", 4), ("() + -()", 5), ("() - 0()", 5),
                ("() + 0", 5), ("()()", 2), ("(1 2) + 3(2 1)\n", 14), ("\n", 0), ("1", 1), ("01()", 1), ("1000000001()", 9),
                ("10000000000()", 10), ("9999999999()", 9), ("(", 1), ("(0)", 1), ("( 1)", 1), ("(1 )", 3), ("(1  1)", 3),
                ("(01)", 1), ("(1 0)", 3), ("(1 01)", 3), ("(11)", 2), ("(1 10)", 4), ("(5 6)", 3), ("(10 1)", 3),
                ("(10 ", 3), ("(5 5 ", 4), ("(5 5 1)", 4), ("(4 6", 4), ("(100)", 3), ("(1 1 1 1 1 1 1 1 1 1 1)", 20),
                ("\u0661()", 0), ("(\u0661)", 1), ("\u00b2()", 0), ("(1)\u00a0+ (2)", 3), ("\u2212()", 0), ("(1,2)", 2),
                ("--()", 1), ("- ()", 1), ("2 ()", 1), ("(1) + + (2)", 6), ("(-1)", 1), ("(1)-(2)", 3), ("x", 0)]:
            self.check_place(text, place)
            self.assertEqual(longest_beginning(text), place)

    def test_texts_cut_off_anywhere(self):
        for text in BASES:
            for length in range(len(text) + 1):
                self.check(text[:length])
                self.check(text[length:])

    def test_a_sign_put_in_left_out_or_put_for_another_one(self):
        for text in BASES:
            for at in range(len(text) + 1):
                self.check(text[:at] + text[at + 1:])
                for sign in SIGNS:
                    self.check(text[:at] + sign + text[at:])
                    self.check(text[:at] + sign + text[at + 1:])

    def test_two_signs_exchanged(self):
        for text in BASES:
            for at in range(len(text) - 1):
                self.check(text[:at] + text[at + 1] + text[at] + text[at + 2:])

    def test_all_short_strings(self):
        for first in ["", "0", "1", "-", "(", ")", " ", "+", "-(", "2(", "(1", "()", "(9", "(10", "() ", "() -"]:
            for second in "0129()+- ":
                for third in "0129()+- ":
                    self.check(first + second + third)

    def test_just_two_hundred_terms(self):
        rows = oracles.compositions_up_to(8)
        many = [f"{k}({' '.join(map(str, rows[k]))})" for k in range(1, 201)]
        text = " - ".join(many)
        self.assertEqual(read_sum(text), oracles.total(terms(text)))
        self.assertEqual(len(read_sum(text)), 200)
        for behind in (" - ()", " + (1)", " ", "x", "()", " -"):
            self.check_place(text + behind, len(text))
        self.check_place(" - ".join(many[:199]) + " ", len(" - ".join(many[:199])) + 1)
        self.assertEqual(read_sum(" + ".join(["()"] * 200)), (((), 200),))
        self.check_place(" + ".join(["()"] * 201), 5 * 200 - 3)
        self.check_place("-" + " + ".join(["()"] * 201), 5 * 200 - 2)

    def test_all_arguments_by_name(self):
        self.assertEqual(written(one=(((1,), 2),)), "2(1)")
        self.assertEqual(read_sum(text="2(1)"), (((1,), 2),))


if __name__ == "__main__":
    unittest.main()
