"""Fillings of labelled orders and their run sums [21], how these go with cuts and turning [22], strict sums [25]."""

import fractions
import itertools
import math
import random
import time
import unittest

import oracles
from shuffledcuts import fillings as told
from shuffledcuts import orders
from shuffledcuts.bases import plain_of_runs
from shuffledcuts.cuts import paired, run_cuts
from shuffledcuts.products import run_product
from shuffledcuts.sums import plus, times
from shuffledcuts.turns import turned_back
from test_orders import ORDERS, SMALL, some_orders

Fraction = fractions.Fraction
MIDDLING = [order for order in ORDERS if order[0] <= 5]
SOON = 20


def rows_of_numbers(n, m):
    return itertools.product(range(1, m + 1), repeat=n)


def fits(order, row):
    return all(row[x] <= row[y] if x < y else row[x] < row[y] for x, y in order[1])


def filling_count(order, m):
    return sum(fits(order, row) for row in rows_of_numbers(order[0], m))


def contents_of_fillings(order):
    """The plain sum of the fillings that use the numbers from 1 on without a gap, by how often they use each."""
    n = order[0]
    terms = []
    for row in rows_of_numbers(n, n):
        counts = tuple(row.count(k) for k in range(1, max(row, default=0) + 1))
        if 0 not in counts and fits(order, row):
            terms.append((counts, 1))
    return oracles.total(terms)


def worth(row, x):
    return sum(Fraction(a, b) * Fraction(x) ** at for at, (a, b) in enumerate(row))


def renumbered(order, numbers):
    return (order[0], tuple(sorted((numbers[x], numbers[y]) for x, y in order[1])))


class OrderSum(unittest.TestCase):
    def test_examples(self):
        self.assertEqual(told.order_sum((0, ())), (((), 1),))
        self.assertEqual(told.order_sum((2, ())), (((1, 1), 1), ((2,), 1)))
        self.assertEqual(told.order_sum((2, ((1, 0),))), (((1, 1), 1),))
        self.assertEqual(told.order_sum((3, ((2, 0),))), (((1, 1, 1), 1), ((1, 2), 1), ((2, 1), 1)))

    def test_by_the_runs_of_the_rows(self):
        for order in ORDERS:
            found = told.order_sum(order)
            n, pairs = order
            rows = [w for w in itertools.permutations(range(n)) if all(w.index(x) < w.index(y) for x, y in pairs)]
            self.assertEqual(found, oracles.total((oracles.runs(w), 1) for w in rows))
            self.assertEqual(sum(k for _, k in found), orders.row_count(order))
            self.assertTrue(oracles.is_sum(found))

    def test_row_count_by_the_things_that_are_below_nothing(self):
        for order in ORDERS:
            n, pairs = order
            if n:
                tops = [x for x in range(n) if not any(low == x for low, _ in pairs)]
                rests = [tuple(y for y in range(n) if y != x) for x in tops]
                self.assertEqual(orders.row_count(order),
                                 sum(orders.row_count(orders.part_order(order, rest)) for rest in rests))

    def test_plain_of_runs_of_it(self):
        for order in MIDDLING:
            self.assertEqual(plain_of_runs(told.order_sum(order)), contents_of_fillings(order))


class Fillings(unittest.TestCase):
    def test_examples(self):
        self.assertEqual(told.fillings((2, ((0, 1),)), 3), 6)
        self.assertEqual(told.fillings((2, ((1, 0),)), 3), 3)
        self.assertEqual(told.fillings((2, ()), 3), 9)

    def test_by_all_rows_of_numbers(self):
        for order in ORDERS:
            for m in range({4: 5, 5: 5, 6: 4, 7: 4}.get(order[0], 7)):
                self.assertEqual(told.fillings(order, m), filling_count(order, m))

    def test_nothing_to_fill_and_nothing_to_fill_with(self):
        for m in range(31):
            self.assertEqual(told.fillings((0, ()), m), 1)
        for order in ORDERS:
            self.assertEqual(told.fillings(order, 0), 1 if order[0] == 0 else 0)

    def test_great_numbers(self):
        for m in range(31):
            for n in range(8):
                rising = tuple((x, y) for x in range(n) for y in range(x + 1, n))
                falling = tuple((y, x) for x in range(n) for y in range(x + 1, n))
                self.assertEqual(told.fillings((n, ()), m), m ** n)
                self.assertEqual(told.fillings((n, rising), m), oracles.choose(m + n - 1, n) if m + n else 1)
                self.assertEqual(told.fillings((n, tuple(sorted(falling))), m), oracles.choose(m, n))


class FillingRow(unittest.TestCase):
    def test_examples(self):
        self.assertEqual(told.filling_row((0, ())), ((1, 1),))
        self.assertEqual(told.filling_row((2, ((0, 1),))), ((0, 1), (1, 2), (1, 2)))
        self.assertEqual(told.filling_row((2, ((1, 0),))), ((0, 1), (-1, 2), (1, 2)))
        self.assertEqual(told.filling_row((7, ())), ((0, 1),) * 7 + ((1, 1),))

    def test_ratios_in_lowest_terms(self):
        for order in ORDERS:
            row = told.filling_row(order)
            self.assertEqual(len(row), order[0] + 1)
            self.assertTrue(oracles.is_plain(row))
            for a, b in row:
                self.assertGreaterEqual(b, 1)
                self.assertEqual(math.gcd(a, b), 1)

    def test_the_worths_are_the_fillings(self):
        for order in ORDERS:
            row = told.filling_row(order)
            for m in range(31):
                self.assertEqual(worth(row, m), told.fillings(order, m))

    def test_the_last_entry(self):
        for order in ORDERS:
            self.assertEqual(Fraction(*told.filling_row(order)[-1]),
                             Fraction(orders.row_count(order), math.factorial(order[0])))

    def test_turned_about_by_swapped(self):
        for order in ORDERS:
            row = told.filling_row(order)
            for m in range(31):
                self.assertEqual(worth(row, -m) * oracles.sign(order[0]), told.fillings(orders.swapped(order), m))


class Laws(unittest.TestCase):
    def test_orders_beside_one_another(self):
        for one in MIDDLING[::2]:
            for other in MIDDLING[::3]:
                if one[0] + other[0] <= 7:
                    self.assertEqual(told.order_sum(orders.beside_order(one, other)),
                                     run_product(told.order_sum(one), told.order_sum(other)))

    def test_orders_below_one_another(self):
        def joined(a, b):
            return [(*a[:-1], a[-1] + b[0], *b[1:])] if a and b else [a + b]
        for one in MIDDLING[::2]:
            for other in MIDDLING[::3]:
                if one[0] + other[0] <= 7:
                    self.assertEqual(told.order_sum(orders.below_all(one, other)),
                                     oracles.product(joined, told.order_sum(one), told.order_sum(other)))

    def test_run_cuts_by_lower_lots(self):
        for order in ORDERS:
            wanted = ()
            for lot in orders.lower_lots(order):
                rest = tuple(x for x in range(order[0]) if x not in lot)
                wanted = plus(wanted, paired(told.order_sum(orders.part_order(order, lot)),
                                             told.order_sum(orders.part_order(order, rest))))
            self.assertEqual(run_cuts(told.order_sum(order)), wanted)

    def test_turning_back_by_upside_down(self):
        for order in ORDERS:
            self.assertEqual(turned_back(told.order_sum(order), "runs"),
                             times(oracles.sign(order[0]), told.order_sum(orders.upside_down(order))))


class StrictSum(unittest.TestCase):
    def test_examples(self):
        self.assertEqual(told.strict_sum((0, ())), (((), 1),))
        self.assertEqual(told.strict_sum((2, ((0, 1),))), (((1, 1), 1),))
        self.assertEqual(told.strict_sum((2, ((1, 0),))), (((1, 1), 1),))
        self.assertEqual(told.strict_sum((2, ())), (((1, 1), 1), ((2,), 1)))
        self.assertEqual(told.strict_sum((3, ((0, 1), (2, 1)))), (((1, 1, 1), 1), ((2, 1), 1)))

    def test_any_numbering_by_which_what_is_below_is_greater(self):
        for order in MIDDLING:
            n, pairs = order
            found = told.strict_sum(order)
            self.assertTrue(oracles.is_sum(found))
            for numbers in itertools.permutations(range(n)):
                if all(numbers[x] > numbers[y] for x, y in pairs):
                    self.assertEqual(found, told.order_sum(renumbered(order, numbers)))

    def test_seven_things(self):
        chance = random.Random(25)
        for order in some_orders(6, 6) + some_orders(7, 6):
            n = order[0]
            found = told.strict_sum(order)
            rows = orders.rows_of(order)
            for row in (rows[-1], chance.choice(rows)):
                numbers = [n - 1 - row.index(x) for x in range(n)]
                self.assertEqual(found, told.order_sum(renumbered(order, numbers)))

    def test_it_does_not_hang_on_the_numbers(self):
        for order in SMALL:
            for numbers in itertools.permutations(range(order[0])):
                self.assertEqual(told.strict_sum(order), told.strict_sum(renumbered(order, numbers)))

    def test_it_counts_the_strict_fillings(self):
        for order in MIDDLING:
            n, pairs = order
            for m in range(4):
                strict = sum(all(row[x] < row[y] for x, y in pairs) for row in rows_of_numbers(n, m))
                self.assertEqual(sum(k * oracles.choose(m + n - len(c), n) for c, k in told.strict_sum(order)), strict)


class Times(unittest.TestCase):
    def test_seven_things_end_soon(self):
        start = time.process_time()
        order = (7, ())
        told.order_sum(order)
        told.strict_sum(order)
        self.assertEqual(told.fillings(order, 30), 30 ** 7)
        told.filling_row(order)
        self.assertLess(time.process_time() - start, SOON)


class ByName(unittest.TestCase):
    def test_all_arguments_by_name(self):
        self.assertEqual(told.order_sum(order=(1, ())), (((1,), 1),))
        self.assertEqual(told.strict_sum(order=(1, ())), (((1,), 1),))
        self.assertEqual(told.fillings(m=30, order=(1, ())), 30)
        self.assertEqual(told.filling_row(order=(1, ())), ((0, 1), (1, 1)))


if __name__ == "__main__":
    unittest.main()
