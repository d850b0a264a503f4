"""Shares of listings by their runs [18], shuffles with heaps and numbers of runs [19]."""

import fractions
import itertools
import math
import unittest

import oracles
from shuffledcuts import shares
from shuffledcuts.compositions import count_by_runs
from shuffledcuts.lots import wide_lot

Fraction = fractions.Fraction
POINTS = [-7, -2, -1, 0, 1, 2, 3, 5, 11, Fraction(1, 2), Fraction(-5, 3), 10 ** 12]


def number(ratio):
    return Fraction(ratio[0], ratio[1])


def is_ratio(value):
    return (type(value) is tuple and len(value) == 2 and all(type(part) is int for part in value)
            and value[1] >= 1 and math.gcd(*value) == 1)


def worth(row, x):
    """The worth at x of the polynomial with these numbers of x^1, x^2, and so on."""
    return sum(number(ratio) * Fraction(x) ** (at + 1) for at, ratio in enumerate(row))


def polynomial(n, d, x):
    product = Fraction(1)
    for i in range(n):
        product *= Fraction(x) + n - 1 - d - i
    return product / math.factorial(n)


def followed(one, other):
    """One sum of listings with fractions and then another one."""
    counts = {}
    for u, k in one:
        for v, j in other:
            w = tuple(v[entry] for entry in u)
            counts[w] = counts.get(w, 0) + number(k) * number(j)
    return {w: k for w, k in counts.items() if k}


def as_numbers(shares_of_listings):
    return {w: number(k) for w, k in shares_of_listings}


def rounds(listing):
    seen, found = set(), 0
    for start in range(len(listing)):
        found += start not in seen
        while start not in seen:
            seen.add(start)
            start = listing[start]
    return found


class RisingRow(unittest.TestCase):
    def test_examples(self):
        self.assertEqual(shares.rising_row(1), (((1, 1),),))
        self.assertEqual(shares.rising_row(2), (((1, 2), (-1, 2)), ((1, 2), (1, 2))))
        self.assertEqual(shares.rising_row(3), (((1, 3), (-1, 6), (1, 3)), ((1, 2), (0, 1), (-1, 2)),
                                                ((1, 6), (1, 6), (1, 6))))

    def test_the_worths_of_the_polynomials(self):
        for n in range(1, 7):
            table = shares.rising_row(n)
            self.assertEqual((len(table), {len(row) for row in table}), (n, {n}))
            self.assertTrue(all(is_ratio(ratio) for row in table for ratio in row))
            for d in range(n):
                for x in POINTS:
                    self.assertEqual(worth([row[d] for row in table], x), polynomial(n, d, x))

    def test_listings_with_as_many_rounds(self):
        for n in range(1, 7):
            for k, row in enumerate(shares.rising_row(n), 1):
                self.assertEqual(number(row[0]) * math.factorial(n),
                                 sum(rounds(w) == k for w in oracles.listings(n)))


class RisingShare(unittest.TestCase):
    def test_examples(self):
        self.assertEqual(shares.rising_share(1, 1), (((0,), (1, 1)),))
        self.assertEqual(shares.rising_share(2, 1), (((0, 1), (1, 2)), ((1, 0), (-1, 2))))
        self.assertEqual(shares.rising_share(3, 2), (((0, 1, 2), (1, 2)), ((2, 1, 0), (-1, 2))))

    def test_by_all_listings(self):
        for n in range(1, 6):
            for k in range(1, n + 1):
                row = shares.rising_row(n)[k - 1]
                wanted = tuple((w, row[len(oracles.runs(w)) - 1]) for w in oracles.listings(n)
                               if row[len(oracles.runs(w)) - 1][0] != 0)
                found = shares.rising_share(n, k)
                self.assertEqual(found, wanted)
                self.assertTrue(all(is_ratio(ratio) and ratio[0] for _, ratio in found))
                self.assertTrue(all(low[0] < high[0] for low, high in zip(found, found[1:])))

    def test_all_of_n_add_up(self):
        for n in range(1, 6):
            totals = {}
            for k in range(1, n + 1):
                for w, ratio in shares.rising_share(n, k):
                    totals[w] = totals.get(w, 0) + number(ratio)
            self.assertEqual({w: k for w, k in totals.items() if k}, {tuple(range(n)): 1})

    def test_one_after_another(self):
        for n in range(1, 5):
            for j in range(1, n + 1):
                for k in range(1, n + 1):
                    wanted = as_numbers(shares.rising_share(n, k)) if j == k else {}
                    self.assertEqual(followed(shares.rising_share(n, j), shares.rising_share(n, k)), wanted)


class ShuffleRow(unittest.TestCase):
    def test_examples(self):
        self.assertEqual(shares.shuffle_row(3, 2), ((1, 2), (1, 8), (0, 1)))
        self.assertEqual(shares.shuffle_row(1, 1), ((1, 1),))
        self.assertEqual(shares.shuffle_row(4, 1), ((1, 1), (0, 1), (0, 1), (0, 1)))

    def test_by_choosing(self):
        for n in range(1, 7):
            for a in [1, 2, 3, 4, 5, 6, 7, 10, 52, 999, 1000]:
                found = shares.shuffle_row(n, a)
                wanted = [Fraction(oracles.choose(a + n - 1 - d, n), a ** n) for d in range(n)]
                self.assertEqual([number(ratio) for ratio in found], wanted)
                self.assertTrue(all(is_ratio(ratio) for ratio in found))
                self.assertIs(type(found), tuple)

    def test_nothing_to_shuffle(self):
        for a in (1, 2, 1000):
            self.assertEqual(shares.shuffle_row(0, a), ((1, 1),))

    def test_over_all_listings_they_add_up_to_one(self):
        for n in range(1, 7):
            for a in (1, 2, 5, 1000):
                row = shares.shuffle_row(n, a)
                self.assertEqual(sum(number(row[len(oracles.runs(w)) - 1]) for w in oracles.listings(n)), 1)

    def test_the_heaps_of_a_pack(self):
        # Each place of the pack run together takes the next thing of some heap; w has the place of each thing.
        for n, a in [(1, 3), (2, 2), (3, 2), (3, 3), (4, 2)]:
            counts = {}
            for heaps in itertools.product(range(a), repeat=n):
                w = tuple(sorted(range(n), key=lambda place: (heaps[place], place)))
                counts[w] = counts.get(w, 0) + 1
            row = shares.shuffle_row(n, a)
            for w in oracles.listings(n):
                self.assertEqual(Fraction(counts.get(w, 0), a ** n), number(row[len(oracles.runs(w)) - 1]))

    def test_one_shuffle_and_then_another_one(self):
        for n, a, b in [(1, 2, 3), (2, 2, 2), (3, 2, 3), (4, 3, 2)]:
            rows = [tuple((w, shares.shuffle_row(n, heaps)[len(oracles.runs(w)) - 1]) for w in oracles.listings(n))
                    for heaps in (a, b, a * b)]
            self.assertEqual(followed(rows[0], rows[1]), {w: number(k) for w, k in rows[2] if k[0]})

    def test_told_by_rising_rows(self):
        for n in range(1, 7):
            for a in (1, 2, 9, 1000):
                for d, ratio in enumerate(shares.shuffle_row(n, a)):
                    wanted = sum(number(row[d]) * Fraction(a) ** (k - n)
                                 for k, row in enumerate(shares.rising_row(n), 1))
                    self.assertEqual(number(ratio), wanted)

    def test_told_by_wide_lots(self):
        for n, a in [(1, 2), (2, 3), (3, 2), (4, 3)]:
            rows = [row for row in itertools.product(range(n + 1), repeat=a) if sum(row) == n]
            wanted = oracles.everywhere(lambda row: wide_lot(tuple(k for k in row if k)), [(row, 1) for row in rows])
            found = oracles.total((w, oracles.choose(a + n - len(oracles.runs(w)), n)) for w in oracles.listings(n))
            self.assertEqual(found, wanted)


class RunsCounts(unittest.TestCase):
    def test_examples(self):
        self.assertEqual([shares.runs_counts(n) for n in range(5)], [(1,), (1,), (1, 1), (1, 4, 1), (1, 11, 11, 1)])

    def test_by_all_listings(self):
        for n in range(1, 7):
            lengths = [len(oracles.runs(w)) for w in oracles.listings(n)]
            self.assertEqual(shares.runs_counts(n), tuple(lengths.count(d + 1) for d in range(n)))

    def test_by_count_by_runs(self):
        for n in range(1, 11):
            wanted = [0] * n
            for c in oracles.compositions(n):
                wanted[len(c) - 1] += count_by_runs(c)
            self.assertEqual(shares.runs_counts(n), tuple(wanted))

    def test_up_to_thirty(self):
        for n in range(31):
            found = shares.runs_counts(n)
            self.assertEqual(sum(found), math.factorial(n))
            self.assertEqual(len(found), max(n, 1))
            self.assertEqual(found, found[::-1])
            self.assertTrue(oracles.is_plain(found))
            # How many rows of n out of m there are, by the runs of the listings that sort them.
            for m in (1, 2, 5, 31):
                self.assertEqual(sum(k * oracles.choose(m + n - 1 - d, n) for d, k in enumerate(found)), m ** n)


class ByName(unittest.TestCase):
    def test_all_arguments_by_name(self):
        self.assertEqual(shares.rising_row(n=1), (((1, 1),),))
        self.assertEqual(shares.rising_share(k=1, n=2), (((0, 1), (1, 2)), ((1, 0), (-1, 2))))
        self.assertEqual(shares.shuffle_row(a=2, n=3), ((1, 2), (1, 8), (0, 1)))
        self.assertEqual(shares.runs_counts(n=3), (1, 4, 1))


if __name__ == "__main__":
    unittest.main()
