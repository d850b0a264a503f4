"""Compositions first of their turns [33], plain sums as mixtures of them [34]."""

import fractions
import itertools
import math
import time
import unittest

import oracles
from shuffledcuts import firsts
from shuffledcuts.errors import CutError, TooMany
from shuffledcuts.products import overlaid
from shuffledcuts.sums import plus, times

Fraction = fractions.Fraction
COUNTS = [1, 1, 2, 3, 6, 9, 18, 30, 56, 99]
SOON = 20


def single(thing):
    return oracles.single(thing)


def is_first(c):
    return c != () and all(c < c[at:] for at in range(1, len(c)))


def lots_of(n, most=None):
    """All lots, never rising, of first compositions whose numbers add up to n."""
    if n == 0:
        return [()]
    found = []
    for m in range(1, n + 1):
        for c in oracles.compositions(m):
            if is_first(c) and (most is None or c <= most):
                found.extend([(c, *rest) for rest in lots_of(n - m, c)])
    return found


def overlaid_lot(lot):
    product = single(())
    for c in lot:
        product = overlaid(product, single(c))
    return product


def plain_numbers(mixture):
    """The numbers other than zero, as fractions, of the sum for which a mixture stands."""
    numbers = {}
    for lot, (a, b) in mixture:
        for c, k in overlaid_lot(lot):
            numbers[c] = numbers.get(c, 0) + k * Fraction(a, b)
    return {c: k for c, k in numbers.items() if k}


def as_shares(one):
    return tuple((c, (k, 1)) for c, k in one)


class Checked(unittest.TestCase):
    def check_too_many(self, limit, function, value):
        with self.assertRaises(CutError) as caught:
            function(value)
        self.assertIs(type(caught.exception), TooMany)
        self.assertEqual(caught.exception.limit, limit)

    def check_ratios(self, pairs):
        self.assertTrue(oracles.is_plain(pairs))
        for _, (a, b) in pairs:
            self.assertTrue(a != 0 and b >= 1 and math.gcd(a, b) == 1)
        self.assertTrue(all(low[0] < high[0] for low, high in zip(pairs, pairs[1:])))

    def check_mixture(self, mixture):
        self.check_ratios(mixture)
        for lot, _ in mixture:
            self.assertTrue(all(is_first(c) for c in lot))
            self.assertTrue(all(high >= low for high, low in zip(lot, lot[1:])))


class First(unittest.TestCase):
    def test_examples(self):
        self.assertIs(firsts.is_first(()), False)
        self.assertIs(firsts.is_first((1,)), True)
        self.assertIs(firsts.is_first((10,)), True)
        self.assertIs(firsts.is_first((1, 1)), False)
        self.assertIs(firsts.is_first((1, 2)), True)
        self.assertIs(firsts.is_first((2, 1)), False)
        self.assertIs(firsts.is_first((1, 2, 1)), False)
        self.assertIs(firsts.is_first((1, 2, 1, 3)), True)
        self.assertIs(firsts.is_first((1, 2, 1, 2)), False)

    def test_all_compositions(self):
        for c in oracles.compositions_up_to(10):
            self.assertIs(firsts.is_first(c), is_first(c))

    def test_by_all_turns(self):
        for c in oracles.compositions_up_to(8):
            turns = [c[at:] + c[:at] for at in range(1, len(c))]
            self.assertIs(firsts.is_first(c), c != () and all(c < turn for turn in turns))

    def test_firsts_of_one_number(self):
        for n in range(1, 11):
            found = firsts.firsts(n)
            self.assertEqual(found, tuple(c for c in oracles.compositions(n) if is_first(c)))
            self.assertEqual(len(found), COUNTS[n - 1])
            self.assertTrue(oracles.is_plain(found))
        self.assertEqual(firsts.firsts(4), ((1, 1, 2), (1, 3), (4,)))


class FirstParts(unittest.TestCase):
    def test_examples(self):
        self.assertEqual(firsts.first_parts(()), ())
        self.assertEqual(firsts.first_parts((3,)), ((3,),))
        self.assertEqual(firsts.first_parts((1, 1, 1)), ((1,), (1,), (1,)))
        self.assertEqual(firsts.first_parts((2, 1, 2, 1, 1, 3)), ((2,), (1, 2), (1, 1, 3)))

    def test_all_compositions(self):
        for c in oracles.compositions_up_to(10):
            parts = firsts.first_parts(c)
            self.assertEqual(tuple(itertools.chain(*parts)), c)
            self.assertTrue(all(is_first(part) for part in parts))
            self.assertTrue(all(high >= low for high, low in zip(parts, parts[1:])))
            self.assertTrue(oracles.is_plain(parts))

    def test_there_is_just_one(self):
        for n in range(9):
            lots = lots_of(n)
            self.assertEqual(sorted(tuple(itertools.chain(*lot)) for lot in lots), oracles.compositions(n))
            for lot in lots:
                self.assertEqual(firsts.first_parts(tuple(itertools.chain(*lot))), lot)


class Mixture(Checked):
    def test_examples(self):
        self.assertEqual(firsts.mixture_of(()), ())
        self.assertEqual(firsts.mixture_of(single(())), (((), (1, 1)),))
        self.assertEqual(firsts.mixture_of((((), -6),)), (((), (-6, 1)),))
        self.assertEqual(firsts.mixture_of(single((1, 2))), ((((1, 2),), (1, 1)),))
        self.assertEqual(firsts.mixture_of(single((1, 1))), ((((1,), (1,)), (1, 2)), (((2,),), (-1, 2))))
        self.assertEqual(firsts.mixture_of(single((2, 1))),
                         ((((1, 2),), (-1, 1)), (((2,), (1,)), (1, 1)), (((3,),), (-1, 1))))

    def test_single_compositions(self):
        for c in oracles.compositions_up_to(6) + oracles.compositions(8)[::9] + [(1,) * 8]:
            found = firsts.mixture_of(single(c))
            self.check_mixture(found)
            self.assertEqual(plain_numbers(found), {c: 1})
            self.assertEqual(firsts.plain_of_mixture(found), ((c, (1, 1)),))

    def test_firsts_stand_for_themselves(self):
        for n in range(1, 9):
            for c in firsts.firsts(n):
                self.assertEqual(firsts.mixture_of(single(c)), (((c,), (1, 1)),))

    def test_sums(self):
        for number, count in [(5, 15), (8, 8)]:
            for one in oracles.sample_sums(oracles.compositions_up_to(number), count, 7, "mixtures"):
                found = firsts.mixture_of(one)
                self.check_mixture(found)
                self.assertEqual(firsts.plain_of_mixture(found), as_shares(one))

    def test_lots_that_are_overlaid(self):
        for n in range(7):
            for lot in lots_of(n):
                self.assertEqual(firsts.mixture_of(overlaid_lot(lot)), ((lot, (1, 1)),))
                self.assertEqual(firsts.mixture_of(times(-12, overlaid_lot(lot))), ((lot, (-12, 1)),))

    def test_terms_that_take_one_another_away(self):
        one = plus(overlaid_lot(((2,), (1,))), times(-1, single((2, 1))))
        self.assertEqual(firsts.mixture_of(one), ((((1, 2),), (1, 1)), (((3,),), (1, 1))))

    def test_products(self):
        rows = oracles.sample_sums(oracles.compositions_up_to(4), 7, 4, "products")
        for one in rows:
            for other in rows:
                numbers = {}
                for a, (k, l) in firsts.mixture_of(one):
                    for b, (i, j) in firsts.mixture_of(other):
                        lot = tuple(sorted(a + b, reverse=True))
                        numbers[lot] = numbers.get(lot, 0) + Fraction(k, l) * Fraction(i, j)
                wanted = tuple((lot, (k.numerator, k.denominator)) for lot, k in sorted(numbers.items()) if k)
                self.assertEqual(firsts.mixture_of(overlaid(one, other)), wanted)

    def test_above_eight(self):
        great = [(9,), (1, 8), (10,), (1,) * 9, (1,) * 10, (5, 5), (4, 1, 4)]
        for c in great:
            self.check_too_many(8, firsts.mixture_of, single(c))
            for others in [[((), 1)], [((1,), -1), ((7, 1), 2)], [((8,), 3)], [((2, 2, 2, 2), 1), ((), 1)],
                           [((1, 1), 1), ((9, 1), -5)]]:
                self.check_too_many(8, firsts.mixture_of, oracles.total([(c, -2), *others]))

    def test_just_eight(self):
        for c in [(8,), (1,) * 8, (7, 1), (2, 1, 2, 1, 2)]:
            self.assertEqual(plain_numbers(firsts.mixture_of(single(c))), {c: 1})


class PlainOfMixture(Checked):
    def test_examples(self):
        self.assertEqual(firsts.plain_of_mixture(()), ())
        self.assertEqual(firsts.plain_of_mixture((((), (1, 1)),)), (((), (1, 1)),))
        self.assertEqual(firsts.plain_of_mixture((((), (-2, 3)), (((1,), (1,)), (1, 2)))),
                         (((), (-2, 3)), ((1, 1), (1, 1)), ((2,), (1, 2))))

    def test_numbers_that_take_one_another_away(self):
        self.assertEqual(firsts.plain_of_mixture(((((1,), (1,)), (1, 2)), (((2,),), (-1, 2)))), (((1, 1), (1, 1)),))
        self.assertEqual(firsts.plain_of_mixture(((((1, 2),), (-1, 3)), (((2,), (1,)), (1, 3)), (((3,),), (-1, 3)))),
                         (((2, 1), (1, 3)),))

    def test_by_the_rule(self):
        ratios = [(1, 2), (-3, 7), (5, 1), (-1, 6), (10 ** 20, 3), (2, 3)]
        lots = [lot for n in range(8) for lot in lots_of(n)]
        for start in range(0, 40, 3):
            picked = sorted(lots[start::37])
            mixture = tuple((lot, ratios[(at * at + start) % 6]) for at, lot in enumerate(picked))
            found = firsts.plain_of_mixture(mixture)
            self.check_ratios(found)
            self.assertEqual({c: Fraction(a, b) for c, (a, b) in found}, plain_numbers(mixture))

    def test_above_ten(self):
        lots = [((1,),) * 11, ((10,), (1,)), ((6,), (5,)), ((9,), (1, 1, 2)), ((8,), (2,), (1,)), ((10,), (10,)),
                ((1, 4), (1, 2), (1, 2))]
        for lot in lots:
            self.check_too_many(10, firsts.plain_of_mixture, ((lot, (1, 2)),))
            for other in [(), ((1,),), ((2,), (1,)), ((10,),), ((10,), (10,), (10,))]:
                mixture = tuple(sorted([(lot, (1, 3)), (other, (-1, 3))]))
                self.check_too_many(10, firsts.plain_of_mixture, mixture)

    def test_just_ten(self):
        self.assertEqual(firsts.plain_of_mixture(((((10,),), (1, 2)),)), (((10,), (1, 2)),))
        self.assertEqual(firsts.plain_of_mixture(((((9,), (1,)), (2, 1)),)),
                         (((1, 9), (2, 1)), ((9, 1), (2, 1)), ((10,), (2, 1))))
        found = dict(firsts.plain_of_mixture(((((1,),) * 10, (1, math.factorial(10))),)))
        self.assertEqual(found, {c: (1, math.prod(map(math.factorial, c))) for c in oracles.compositions(10)})


class Times(unittest.TestCase):
    def test_great_sums_end_soon(self):
        start = time.process_time()
        every = tuple((c, at + 1) for at, c in enumerate(sorted(oracles.compositions_up_to(8))))
        found = firsts.mixture_of(every)
        self.assertEqual(firsts.plain_of_mixture(found), as_shares(every))
        for c in oracles.compositions(8):
            firsts.mixture_of(single(c))
        self.assertLess(time.process_time() - start, SOON)


class ByName(unittest.TestCase):
    def test_all_arguments_by_name(self):
        self.assertIs(firsts.is_first(composition=(1, 2)), True)
        self.assertEqual(firsts.firsts(n=2), ((2,),))
        self.assertEqual(firsts.first_parts(composition=(2, 1)), ((2,), (1,)))
        self.assertEqual(firsts.mixture_of(one=single((2,))), ((((2,),), (1, 1)),))
        self.assertEqual(firsts.plain_of_mixture(mixture=((((2,),), (1, 3)),)), (((2,), (1, 3)),))


if __name__ == "__main__":
    unittest.main()
