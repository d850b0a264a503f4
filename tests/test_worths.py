"""Worths of plain sums for rows of ratios and for ones as many as an integer tells [37]."""

import fractions
import itertools
import math
import time
import unittest

import oracles
from shuffledcuts import worths
from shuffledcuts.bases import plain_of_runs
from shuffledcuts.cuts import plain_cuts
from shuffledcuts.fillings import fillings, order_sum
from shuffledcuts.judges import peak_sum
from shuffledcuts.necklaces import necklace_sum
from shuffledcuts.products import overlaid
from shuffledcuts.sums import times
from shuffledcuts.turns import turned_back
from shuffledcuts.webs import colourings, web_sum
from test_judges import rows_of_peaks
from test_orders import ORDERS
from test_webs import WEBS

Fraction = fractions.Fraction
ENTRIES = [(1, 2), (-3, 5), (0, 1), (7, 3), (2, 1), (-1, 11), (0, 1), (5, 13), (-9, 17), (1, 1), (4, 19), (-1, 1)]
ROWS = [(), ((0, 1),), ((1, 1),), ((-2, 3),), ((1, 2), (1, 3)), ((1, 3), (1, 2)), ((0, 1), (0, 1), (0, 1)),
        ((5, 1), (-5, 1)), tuple(ENTRIES[:4]), tuple(ENTRIES[3:9])]
NUMBERS = [*range(-14, 15), 100, -100, 10 ** 6, -(10 ** 6) - 1, 10 ** 40 + 7, -(10 ** 40) + 9]
SOON = 20


def single(thing):
    return oracles.single(thing)


def number(ratio):
    return Fraction(*ratio)


def composition_worth(c, row):
    return sum((math.prod((number(entry) ** k for entry, k in zip(entries, c)), start=Fraction(1))
                for entries in itertools.combinations(row, len(c))), start=Fraction(0))


def worth_by_rule(one, row):
    total = sum((k * composition_worth(c, row) for c, k in one), start=Fraction(0))
    return (total.numerator, total.denominator)


def at_by_rule(one, m):
    total = Fraction(0)
    for c, k in one:
        factors = Fraction(k)
        for step in range(len(c)):
            factors = factors * (m - step) / (step + 1)
        total += factors
    return total


def samples(most, count, seed, terms=5):
    return [(), single(()), (((), -7),),
            *oracles.sample_sums(oracles.compositions_up_to(most), count, terms, "worths " + seed)]


class Worth(unittest.TestCase):
    def check_ratio(self, found):
        self.assertTrue(oracles.is_plain(found))
        self.assertEqual(len(found), 2)
        self.assertGreaterEqual(found[1], 1)
        self.assertEqual(math.gcd(*found), 1)

    def test_examples(self):
        row = ((1, 2), (-1, 3), (2, 1))
        self.assertEqual(worths.worth(single((1,)), row), (13, 6))
        self.assertEqual(worths.worth(single((2,)), row), (157, 36))
        self.assertEqual(worths.worth(single((1, 2)), row), (13, 18))
        self.assertEqual(worths.worth(single((1, 1)), row), (1, 6))
        self.assertEqual(worths.worth(single((1, 1, 1)), row), (-1, 3))
        self.assertEqual(worths.worth(single((1, 1, 1, 1)), row), (0, 1))

    def test_the_sum_of_nothing_and_the_empty_composition(self):
        for row in ROWS + [tuple(ENTRIES)]:
            self.assertEqual(worths.worth((), row), (0, 1))
            self.assertEqual(worths.worth(single(()), row), (1, 1))
            self.assertEqual(worths.worth((((), -12),), row), (-12, 1))

    def test_the_empty_row(self):
        for one in samples(5, 10, "empty"):
            self.assertEqual(worths.worth(one, ()), (dict(one).get((), 0), 1))

    def test_single_compositions(self):
        for c in oracles.compositions_up_to(5):
            for row in ROWS:
                found = worths.worth(single(c), row)
                self.assertEqual(found, worth_by_rule(single(c), row))
                self.check_ratio(found)

    def test_sums(self):
        for one in samples(7, 12, "sums", 9):
            for row in ROWS:
                found = worths.worth(one, row)
                self.assertEqual(found, worth_by_rule(one, row))
                self.check_ratio(found)

    def test_rows_of_all_lengths(self):
        one = samples(6, 1, "lengths", 12)[-1]
        for length in range(13):
            for start in (0, 3, 7):
                row = tuple((ENTRIES * 2)[start:start + length])
                self.assertEqual(worths.worth(one, row), worth_by_rule(one, row))

    def test_great_numbers(self):
        row = ((10 ** 12, 1), (-(10 ** 12), 7), (1, 10 ** 12 + 39), (0, 1))
        for c in [(10,), (1, 9), (3, 3, 4), (5, 1)]:
            self.assertEqual(worths.worth(single(c), row), worth_by_rule(single(c), row))

    def test_terms_that_take_one_another_away(self):
        self.assertEqual(worths.worth((((1,), 2), ((2,), -1)), ((2, 1), (0, 1))), (0, 1))
        self.assertEqual(worths.worth((((1,), 3), ((1, 1), -4)), ((1, 2), (3, 2))), (3, 1))

    def test_overlaid(self):
        for one in samples(4, 6, "overlaid"):
            for other in samples(3, 6, "other"):
                both = overlaid(one, other)
                for row in ROWS:
                    product = number(worths.worth(one, row)) * number(worths.worth(other, row))
                    self.assertEqual(number(worths.worth(both, row)), product)

    def test_a_row_behind_another_one(self):
        for one in samples(6, 8, "behind"):
            for row in ROWS:
                for other in ROWS[::2]:
                    wanted = sum(k * number(worths.worth(single(a), row)) * number(worths.worth(single(b), other))
                                 for (a, b), k in plain_cuts(one))
                    self.assertEqual(number(worths.worth(one, row + other)), wanted)

    def test_zeros_anywhere(self):
        for one in samples(6, 8, "zeros"):
            for row in ROWS:
                wanted = worths.worth(one, row)
                for at in range(len(row) + 1):
                    self.assertEqual(worths.worth(one, row[:at] + ((0, 1),) + row[at:]), wanted)

    def test_even_sums(self):
        for partition in [(2,), (3, 1), (2, 2), (4, 1), (3, 2, 1)]:
            one = necklace_sum(partition)
            for row in [((1, 2), (3, 1), (-1, 5)), ((0, 1), (2, 3), (2, 1), (-7, 1))]:
                self.assertEqual(len({worths.worth(one, other) for other in itertools.permutations(row)}), 1)
        self.assertNotEqual(worths.worth(single((1, 2)), ((1, 1), (2, 1))),
                            worths.worth(single((1, 2)), ((2, 1), (1, 1))))

    def test_many_entries_beside_rows_of_twelve_end_soon(self):
        start = time.process_time()
        row = tuple(ENTRIES)
        for c in [(1,) * 10, (1,) * 5, (2, 2, 2, 2, 2), (1, 2, 1, 2, 1, 2, 1), (1, 1, 1, 1, 6)]:
            self.assertEqual(worths.worth(single(c), row), worth_by_rule(single(c), row))
        every = tuple((c, at + 1) for at, c in enumerate(sorted(oracles.compositions_up_to(10))))
        self.assertEqual(worths.worth(every, ((0, 1),) * 12), (1, 1))
        self.assertEqual(worths.worth(every, ((1, 1),) * 12), (at_by_rule(every, 12), 1))
        self.check_ratio(worths.worth(every, row))
        self.assertLess(time.process_time() - start, SOON)


class WorthAt(unittest.TestCase):
    def test_examples(self):
        self.assertEqual(worths.worth_at(single((1, 1)), 4), 6)
        self.assertEqual(worths.worth_at(single((3, 1)), -1), 1)
        self.assertEqual(worths.worth_at(single((5,)), -3), -3)
        self.assertEqual(worths.worth_at((((), 2), ((1,), -1)), 10 ** 30), 2 - 10 ** 30)

    def test_nothing_and_the_empty_composition(self):
        for m in NUMBERS:
            self.assertEqual(worths.worth_at((), m), 0)
            self.assertEqual(worths.worth_at((((), -3),), m), -3)

    def test_as_many_ones(self):
        for one in samples(6, 8, "ones"):
            for m in range(13):
                self.assertEqual((worths.worth_at(one, m), 1), worths.worth(one, ((1, 1),) * m))

    def test_by_the_polynomial(self):
        for one in samples(10, 20, "polynomial", 9) + [single((1,) * 10), single((2,) * 5)]:
            for m in NUMBERS:
                found = worths.worth_at(one, m)
                self.assertIs(type(found), int)
                self.assertEqual(found, at_by_rule(one, m))

    def test_turned_back(self):
        for one in samples(6, 10, "turned"):
            turned = turned_back(one, "plain")
            for m in NUMBERS:
                self.assertEqual(worths.worth_at(one, -m), worths.worth_at(turned, m))

    def test_integers_added_up(self):
        for one in samples(6, 6, "added"):
            cuts = plain_cuts(one)
            for m in NUMBERS[::3]:
                for k in NUMBERS[::4]:
                    wanted = sum(j * worths.worth_at(single(a), m) * worths.worth_at(single(b), k)
                                 for (a, b), j in cuts)
                    self.assertEqual(worths.worth_at(one, m + k), wanted)

    def test_overlaid(self):
        for one in samples(4, 5, "product"):
            for other in samples(4, 5, "factor"):
                for m in NUMBERS[::2]:
                    self.assertEqual(worths.worth_at(overlaid(one, other), m),
                                     worths.worth_at(one, m) * worths.worth_at(other, m))

    def test_colourings(self):
        for web in WEBS:
            one = web_sum(web)
            for m in range(0, 31, 3):
                self.assertEqual(worths.worth_at(one, m), colourings(web, m))

    def test_fillings(self):
        for order in ORDERS[::2]:
            one = plain_of_runs(order_sum(order))
            for m in range(0, 31, 3):
                self.assertEqual(worths.worth_at(one, m), fillings(order, m))

    def test_peak_sums_at_the_other_sign(self):
        for n in range(9):
            for row in rows_of_peaks(n):
                one = peak_sum(n, row)
                for m in range(10):
                    self.assertEqual(worths.worth_at(one, -m), oracles.sign(n) * worths.worth_at(one, m))


class ByName(unittest.TestCase):
    def test_all_arguments_by_name(self):
        self.assertEqual(worths.worth(row=((1, 2),), one=single((2,))), (1, 4))
        self.assertEqual(worths.worth_at(m=-2, one=times(3, single((2,)))), -6)


if __name__ == "__main__":
    unittest.main()
