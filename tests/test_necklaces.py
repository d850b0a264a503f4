"""Plain necklaces and how many there are [31], sums told by rounds and by necklaces [32]."""

import itertools
import math
import time
import unittest

import oracles
from shuffledcuts import necklaces
from shuffledcuts.bases import plain_of_runs
from shuffledcuts.errors import CutError, TooMany
from shuffledcuts.products import overlaid
from shuffledcuts.shares import rising_row
from shuffledcuts.sums import plus, times
from shuffledcuts.webs import web_sum
from test_webs import WEBS

SOON = 20


def single(thing):
    return oracles.single(thing)


def turns(word):
    return [word[at:] + word[:at] for at in range(len(word))]


def is_least_and_plain(word):
    return all(word < other for other in turns(word)[1:])


def words(n, most):
    return itertools.product(range(1, most + 1), repeat=n)


def partitions(n):
    return [c for c in oracles.compositions(n) if list(c) == sorted(c, reverse=True)]


PARTITIONS = [p for n in range(7) for p in partitions(n)]


def rounds(listing):
    """The sizes of the rounds, each looked at from all of its entries."""
    lots = set()
    for start in range(len(listing)):
        lot = {start}
        at = listing[start]
        while at not in lot:
            lot.add(at)
            at = listing[at]
        lots.add(frozenset(lot))
    return tuple(sorted(map(len, lots), reverse=True))


def lots_of_necklaces(partition):
    """All lots of plain necklaces with these lengths and integers up to their sum."""
    n = sum(partition)
    choices = []
    for length in sorted(set(partition)):
        plain = [word for word in words(length, n) if is_least_and_plain(word)]
        choices.append(list(itertools.combinations_with_replacement(plain, partition.count(length))))
    return [[word for lot in row for word in lot] for row in itertools.product(*choices)]


def necklace_sum(partition):
    terms = []
    for lot in lots_of_necklaces(partition):
        beads = [bead for word in lot for bead in word]
        counts = tuple(beads.count(k) for k in range(1, max(beads, default=0) + 1))
        if 0 not in counts:
            terms.append((counts, 1))
    return oracles.total(terms)


class Checked(unittest.TestCase):
    def check_too_many(self, function, partition):
        with self.assertRaises(CutError) as caught:
            function(partition)
        self.assertIs(type(caught.exception), TooMany)
        self.assertEqual(caught.exception.limit, 6)


class PlainNecklaces(unittest.TestCase):
    def test_examples(self):
        self.assertEqual(necklaces.plain_necklaces(1, 3), ((1,), (2,), (3,)))
        self.assertEqual(necklaces.plain_necklaces(2, 1), ())
        self.assertEqual(necklaces.plain_necklaces(2, 3), ((1, 2), (1, 3), (2, 3)))
        self.assertEqual(necklaces.plain_necklaces(4, 2), ((1, 1, 1, 2), (1, 1, 2, 2), (1, 2, 2, 2)))

    def test_by_all_words(self):
        for most in range(1, 5):
            for n in range(1, {1: 9, 2: 9, 3: 8, 4: 7}[most]):
                found = necklaces.plain_necklaces(n, most)
                self.assertEqual(found, tuple(word for word in words(n, most) if is_least_and_plain(word)))
                self.assertTrue(oracles.is_plain(found))
                self.assertEqual(len(found), necklaces.plain_count(n, most))

    def test_by_the_least_of_all_turns(self):
        for most in range(1, 4):
            for n in range(1, 7):
                least = {min(turns(word)) for word in words(n, most) if len(set(turns(word))) == n}
                self.assertEqual(necklaces.plain_necklaces(n, most), tuple(sorted(least)))

    def test_the_greatest_end_soon(self):
        start = time.process_time()
        for most in (3, 4):
            for n in (7, 8):
                found = necklaces.plain_necklaces(n, most)
                self.assertEqual(len(found), necklaces.plain_count(n, most))
                self.assertEqual(found, tuple(sorted(set(found))))
                self.assertTrue(all(is_least_and_plain(word) and len(word) == n and max(word) <= most
                                    for word in found))
        self.assertEqual(len(necklaces.plain_necklaces(8, 4)), 8160)
        self.assertLess(time.process_time() - start, SOON)


def sign_by_primes(d):
    primes = [p for p in range(2, d + 1) if d % p == 0 and all(p % q for q in range(2, p))]
    return 0 if any(d % (p * p) == 0 for p in primes) else (-1) ** len(primes)


class PlainCount(unittest.TestCase):
    def test_examples(self):
        self.assertEqual([necklaces.plain_count(n, 2) for n in range(1, 11)], [2, 1, 2, 3, 6, 9, 18, 30, 56, 99])
        self.assertEqual([necklaces.plain_count(n, 1) for n in range(1, 41)], [1] + [0] * 39)
        self.assertEqual(necklaces.plain_count(1, 1000), 1000)
        self.assertEqual(necklaces.plain_count(2, 1000), 499500)

    def test_by_the_divisors(self):
        for n in range(1, 41):
            for most in [1, 2, 3, 4, 10, 97, 999, 1000]:
                found = necklaces.plain_count(n, most)
                total = sum(sign_by_primes(d) * most ** (n // d) for d in range(1, n + 1) if n % d == 0)
                self.assertIs(type(found), int)
                self.assertEqual(found * n, total)

    def test_all_words_by_the_divisors(self):
        for n in range(1, 41):
            for most in [1, 2, 5, 1000]:
                self.assertEqual(sum(d * necklaces.plain_count(d, most) for d in range(1, n + 1) if n % d == 0),
                                 most ** n)


class Rounds(unittest.TestCase):
    def test_examples(self):
        self.assertEqual(necklaces.rounds_of(()), ())
        self.assertEqual(necklaces.rounds_of((0, 1, 2)), (1, 1, 1))
        self.assertEqual(necklaces.rounds_of((0, 2, 3, 1)), (3, 1))
        self.assertEqual(necklaces.rounds_of((1, 0, 3, 4, 2)), (3, 2))

    def test_all_listings(self):
        for w in oracles.listings_up_to(6):
            found = necklaces.rounds_of(w)
            self.assertEqual(found, rounds(w))
            self.assertTrue(oracles.is_plain(found))

    def test_shares_tell_the_listings_by_rounds(self):
        for n in range(1, 7):
            counts = [0] * n
            for w in oracles.listings(n):
                counts[len(necklaces.rounds_of(w)) - 1] += 1
            wanted = [row[0][0] * math.factorial(n) // row[0][1] for row in rising_row(n)]
            self.assertEqual(counts, wanted)


class RoundSum(Checked):
    def test_examples(self):
        self.assertEqual(necklaces.round_sum(()), (((), 1),))
        self.assertEqual(necklaces.round_sum((1, 1, 1)), (((3,), 1),))
        self.assertEqual(necklaces.round_sum((2, 1)), (((1, 1, 1), 1), ((1, 2), 1), ((2, 1), 1)))
        self.assertEqual(necklaces.round_sum((3,)), (((1, 2), 1), ((2, 1), 1)))

    def test_by_all_listings(self):
        for n in range(7):
            sums = {}
            for w in oracles.listings(n):
                sums.setdefault(rounds(w), []).append((oracles.runs(w), 1))
            self.assertEqual(sorted(sums), partitions(n))
            for partition in sums:
                found = necklaces.round_sum(partition)
                self.assertEqual(found, oracles.total(sums[partition]))
                self.assertTrue(oracles.is_sum(found))

    def test_above_six(self):
        for partition in [(7,), (1,) * 7, (4, 3), (10,), (5, 5), (1,) * 10, (2, 2, 2, 1)]:
            self.check_too_many(necklaces.round_sum, partition)
            self.check_too_many(necklaces.necklace_sum, partition)


class NecklaceSum(Checked):
    def test_examples(self):
        self.assertEqual(necklaces.necklace_sum(()), (((), 1),))
        self.assertEqual(necklaces.necklace_sum((1, 1)), (((1, 1), 1), ((2,), 1)))
        self.assertEqual(necklaces.necklace_sum((2,)), (((1, 1), 1),))
        self.assertEqual(necklaces.necklace_sum((3,)), (((1, 1, 1), 2), ((1, 2), 1), ((2, 1), 1)))

    def test_by_all_lots_of_necklaces(self):
        for partition in PARTITIONS:
            if sum(partition) <= 5 or partition in [(2, 2, 2), (3, 3), (2, 2, 1, 1), (6,)]:
                found = necklaces.necklace_sum(partition)
                self.assertEqual(found, necklace_sum(partition))
                self.assertTrue(oracles.is_sum(found))

    def test_by_the_rounds(self):
        for partition in PARTITIONS:
            self.assertEqual(necklaces.necklace_sum(partition), plain_of_runs(necklaces.round_sum(partition)))

    def test_all_of_one_number_add_up(self):
        for n in range(7):
            total = ()
            for partition in partitions(n):
                total = plus(total, necklaces.necklace_sum(partition))
            self.assertEqual(total, tuple((c, math.factorial(n) // math.prod(map(math.factorial, c)))
                                          for c in oracles.compositions(n)))

    def test_partitions_without_a_like_entry(self):
        for one in PARTITIONS:
            for other in PARTITIONS:
                if sum(one) + sum(other) <= 6 and not set(one) & set(other):
                    both = tuple(sorted(one + other, reverse=True))
                    self.assertEqual(necklaces.necklace_sum(both),
                                     overlaid(necklaces.necklace_sum(one), necklaces.necklace_sum(other)))


def is_even(one):
    numbers = dict(one)
    return all(numbers.get(row) == k for c, k in one for row in itertools.permutations(c))


class Even(unittest.TestCase):
    def test_examples(self):
        self.assertIs(necklaces.is_even(()), True)
        self.assertIs(necklaces.is_even(single(())), True)
        self.assertIs(necklaces.is_even((((2, 2), -5), ((10,), 1))), True)
        self.assertIs(necklaces.is_even(single((1, 2))), False)
        self.assertIs(necklaces.is_even((((1, 2), 1), ((2, 1), 2))), False)
        self.assertIs(necklaces.is_even((((1, 2), 1), ((2, 1), 1))), True)
        self.assertIs(necklaces.is_even((((1, 2), 1), ((2, 1), -1))), False)
        self.assertIs(necklaces.is_even((((1, 1, 2), 3), ((1, 2, 1), 3))), False)
        self.assertIs(necklaces.is_even((((1, 1, 2), 3), ((2, 1, 1), 3))), False)

    def test_necklace_sums(self):
        for partition in PARTITIONS:
            one = necklaces.necklace_sum(partition)
            self.assertIs(necklaces.is_even(one), True)
            for at, (thing, k) in enumerate(one):
                if len(set(thing)) > 1:
                    self.assertIs(necklaces.is_even(one[:at] + one[at + 1:]), False)
                    self.assertIs(necklaces.is_even(one[:at] + ((thing, k + 1),) + one[at + 1:]), False)

    def test_by_all_sequences(self):
        things = oracles.compositions_up_to(5)
        for one in oracles.sample_sums(things, 60, 4, "even"):
            self.assertIs(necklaces.is_even(one), is_even(one))
            full = oracles.total((tuple(row), k) for c, k in one for row in itertools.permutations(c))
            self.assertIs(necklaces.is_even(full), True)
            self.assertIs(necklaces.is_even(plus(full, single((3, 1)))), False)
            self.assertIs(necklaces.is_even(times(-7, full)), True)

    def test_web_sums(self):
        for web in WEBS:
            self.assertIs(necklaces.is_even(web_sum(web)), True)

    def test_long_compositions_end_soon(self):
        start = time.process_time()
        self.assertIs(necklaces.is_even(single((1,) * 10)), True)
        self.assertIs(necklaces.is_even(single((1,) * 8 + (2,))), False)
        every = tuple((c, 4) for c in oracles.compositions(10))
        self.assertIs(necklaces.is_even(every), True)
        self.assertIs(necklaces.is_even(every[:300] + every[301:]), False)
        self.assertLess(time.process_time() - start, SOON)


class ByName(unittest.TestCase):
    def test_all_arguments_by_name(self):
        self.assertEqual(necklaces.plain_necklaces(most=2, n=3), ((1, 1, 2), (1, 2, 2)))
        self.assertEqual(necklaces.plain_count(most=2, n=3), 2)
        self.assertEqual(necklaces.rounds_of(listing=(1, 0, 2)), (2, 1))
        self.assertEqual(necklaces.round_sum(partition=(2,)), single((1, 1)))
        self.assertEqual(necklaces.necklace_sum(partition=(2,)), single((1, 1)))
        self.assertIs(necklaces.is_even(one=single((1, 2))), False)


if __name__ == "__main__":
    unittest.main()
