"""The products of the four sorts of sums [9], [10]."""

import unittest

import oracles
from shuffledcuts import products
from shuffledcuts.bases import plain_of_runs, ribbons_of_wholes
from shuffledcuts.compositions import across, other_side, turned
from shuffledcuts.errors import CutError, TooMany

ALL_FOUR = (products.overlaid, products.run_product, products.behind, products.ribbon_product)
PAIRS = [(a, b) for a in oracles.compositions_up_to(4) for b in oracles.compositions_up_to(4)]
GREAT_PAIRS = [((1,) * 5, (5,)), ((2, 3), (1, 4)), ((1, 2, 2), (3, 2)), ((), (1, 9)), ((10,), ()), ((1, 6), (2, 1)),
               ((1,) * 9, (1,)), ((2, 1, 2), (1, 1, 3))]
SAMPLES = [(), (((), 1),), (((), -2), ((1, 1), 3)),
           *oracles.sample_sums(oracles.compositions_up_to(3), 8, 6, "products")]
GREAT_SAMPLES = oracles.sample_sums(oracles.compositions_up_to(5), 4, 10, "great products")


def single(composition):
    return oracles.single(composition)


def everywhere(lead, one):
    return oracles.total((lead(thing), k) for thing, k in one)


class Rules(unittest.TestCase):
    def test_examples(self):
        self.assertEqual(products.overlaid(single((1,)), single((1,))), (((1, 1), 2), ((2,), 1)))
        self.assertEqual(products.overlaid(single((1,)), single((2,))), (((1, 2), 1), ((2, 1), 1), ((3,), 1)))
        self.assertEqual(products.run_product(single((1,)), single((1,))), (((1, 1), 1), ((2,), 1)))
        self.assertEqual(products.run_product(single((1,)), single((2,))), (((1, 2), 1), ((2, 1), 1), ((3,), 1)))
        self.assertEqual(products.behind(single((1, 2)), single((3,))), single((1, 2, 3)))
        self.assertEqual(products.ribbon_product(single((1, 2)), single((3,))), (((1, 2, 3), 1), ((1, 5), 1)))

    def test_overlaid_of_single_compositions(self):
        for a, b in PAIRS:
            wanted = oracles.total((thing, 1) for thing in oracles.overlay_pair(a, b))
            self.assertEqual(products.overlaid(single(a), single(b)), wanted)

    def test_overlaid_of_great_compositions_counts_all_rows(self):
        rows = {(0, 0): 1}
        for i in range(11):
            for j in range(11):
                if i or j:
                    rows[i, j] = rows.get((i - 1, j), 0) + rows.get((i, j - 1), 0) + rows.get((i - 1, j - 1), 0)
        for a, b in PAIRS + GREAT_PAIRS:
            found = products.overlaid(single(a), single(b))
            self.assertEqual(sum(k for _, k in found), rows[len(a), len(b)])

    def test_run_product_of_listings_with_these_runs(self):
        for u in oracles.listings_up_to(5):
            for v in oracles.listings_up_to(5 - len(u)):
                wanted = oracles.total((oracles.runs(w), 1) for w in oracles.shuffle_pair(u, v))
                self.assertEqual(products.run_product(single(oracles.runs(u)), single(oracles.runs(v))), wanted)

    def test_run_product_of_six(self):
        for n in range(7):
            for a in oracles.compositions(n):
                for b in oracles.compositions(6 - n):
                    wanted = oracles.total((thing, 1) for thing in oracles.run_pair(a, b))
                    self.assertEqual(products.run_product(single(a), single(b)), wanted)

    def test_the_numbers_of_run_product(self):
        for a, b in PAIRS + GREAT_PAIRS:
            found = products.run_product(single(a), single(b))
            self.assertEqual(sum(k for _, k in found), oracles.choose(sum(a) + sum(b), sum(a)))
            self.assertTrue(all(k > 0 for _, k in found))

    def test_behind_and_ribbon_product_of_single_compositions(self):
        for a, b in PAIRS + GREAT_PAIRS:
            self.assertEqual(products.behind(single(a), single(b)), single(a + b))
            wanted = oracles.total((thing, 1) for thing in oracles.ribbon_pair(a, b))
            self.assertEqual(products.ribbon_product(single(a), single(b)), wanted)

    def test_an_empty_composition_on_either_side(self):
        for product in ALL_FOUR:
            for a in oracles.compositions_up_to(6) + [(10,), (1, 9)]:
                self.assertEqual(product(single(a), single(())), single(a))
                self.assertEqual(product(single(()), single(a)), single(a))

    def test_sums_by_additivity(self):
        rules = [(products.overlaid, oracles.overlay_pair), (products.run_product, oracles.run_pair),
                 (products.behind, oracles.behind_pair), (products.ribbon_product, oracles.ribbon_pair)]
        for product, rule in rules:
            for one in SAMPLES:
                for other in SAMPLES:
                    found = product(one, other)
                    self.assertEqual(found, oracles.product(rule, one, other))
                    self.assertTrue(oracles.is_sum(found))

    def test_terms_that_cancel(self):
        apart = (((1,), 1), ((1, 2), -1))
        self.assertEqual(products.behind(apart, (((1,), 1), ((2, 1), 1))),
                         (((1, 1), 1), ((1, 2, 2, 1), -1)))
        self.assertEqual(products.overlaid((((1,), 1),), (((1,), 1), ((2,), -1))),
                         (((1, 1), 2), ((1, 2), -1), ((2,), 1), ((2, 1), -1), ((3,), -1)))


class Laws(unittest.TestCase):
    def test_nothing_and_the_empty_composition(self):
        for product in ALL_FOUR:
            for one in SAMPLES + GREAT_SAMPLES:
                self.assertEqual(product(one, ()), ())
                self.assertEqual(product((), one), ())
                self.assertEqual(product(one, single(())), one)
                self.assertEqual(product(single(()), one), one)

    def test_both_exchanged(self):
        for product in (products.overlaid, products.run_product):
            for one, other in zip(SAMPLES + GREAT_SAMPLES, SAMPLES[3:] + GREAT_SAMPLES + SAMPLES[:3]):
                self.assertEqual(product(one, other), product(other, one))
            for a, b in PAIRS + GREAT_PAIRS:
                self.assertEqual(product(single(a), single(b)), product(single(b), single(a)))

    def test_three_in_any_grouping(self):
        for product in ALL_FOUR:
            for one, other, third in zip(SAMPLES, SAMPLES[2:] + SAMPLES[:2], SAMPLES[5:] + SAMPLES[:5]):
                self.assertEqual(product(product(one, other), third), product(one, product(other, third)))
            for a, b, c in [((1, 2), (2,), (3, 1)), ((1,), (1,), (1,)), ((), (2, 2), (1, 1, 1)), ((2,), (), (3, 5))]:
                self.assertEqual(product(product(single(a), single(b)), single(c)),
                                 product(single(a), product(single(b), single(c))))

    def test_plain_of_runs_leads_run_product_to_overlaid(self):
        for one, other in zip(SAMPLES + GREAT_SAMPLES, SAMPLES[4:] + GREAT_SAMPLES + SAMPLES[:4]):
            self.assertEqual(plain_of_runs(products.run_product(one, other)),
                             products.overlaid(plain_of_runs(one), plain_of_runs(other)))
        for a, b in PAIRS + GREAT_PAIRS:
            self.assertEqual(plain_of_runs(products.run_product(single(a), single(b))),
                             products.overlaid(plain_of_runs(single(a)), plain_of_runs(single(b))))

    def test_ribbons_of_wholes_leads_behind_to_ribbon_product(self):
        for one, other in zip(SAMPLES + GREAT_SAMPLES, SAMPLES[4:] + GREAT_SAMPLES + SAMPLES[:4]):
            self.assertEqual(ribbons_of_wholes(products.behind(one, other)),
                             products.ribbon_product(ribbons_of_wholes(one), ribbons_of_wholes(other)))
        for a, b in PAIRS + GREAT_PAIRS:
            self.assertEqual(ribbons_of_wholes(products.behind(single(a), single(b))),
                             products.ribbon_product(ribbons_of_wholes(single(a)), ribbons_of_wholes(single(b))))

    def test_turning_about(self):
        for lead, product in [(turned, products.overlaid), (other_side, products.run_product),
                              (across, products.run_product)]:
            for one, other in [(single(a), single(b)) for a, b in PAIRS + GREAT_PAIRS] + list(zip(SAMPLES, SAMPLES[3:])):
                self.assertEqual(everywhere(lead, product(one, other)),
                                 product(everywhere(lead, one), everywhere(lead, other)))

    def test_turned_leads_behind_to_behind_in_the_other_sequence(self):
        for one, other in [(single(a), single(b)) for a, b in PAIRS] + list(zip(SAMPLES, SAMPLES[3:])):
            self.assertEqual(everywhere(turned, products.behind(one, other)),
                             products.behind(everywhere(turned, other), everywhere(turned, one)))


class Limits(unittest.TestCase):
    def check(self, one, other):
        for product in ALL_FOUR:
            for left, right in ((one, other), (other, one)):
                with self.subTest(product=product, left=left, right=right):
                    with self.assertRaises(CutError) as caught:
                        product(left, right)
                    self.assertIs(type(caught.exception), TooMany)
                    self.assertEqual(caught.exception.limit, 10)

    def test_above_ten(self):
        self.check(single((1,)), single((10,)))
        self.check(single((5,)), single((6,)))
        self.check(single((1,) * 10), single((1,)))
        self.check(single((10,)), single((10,)))
        self.check((((), 1), ((1, 5), -3), ((2,), 1)), (((1,), 1), ((1, 1, 3), 2), ((2, 2), 1)))
        self.check((((1,), 1), ((1, 9), 1), ((2,), 1)), (((), 1), ((1,), 1)))
        self.check((((1, 6), 1), ((2,), 1)), (((), 1), ((1, 3), 1), ((2,), -1)))

    def test_just_ten_is_let(self):
        for product in ALL_FOUR:
            for one, other in [(single((5,)), single((2, 3))), (single((10,)), single(())), (single((9,)), single((1,))),
                               ((((), 1), ((1, 5), 2)), (((1, 3), 1), ((2,), 2), ((4,), 1)))]:
                for left, right in ((one, other), (other, one)):
                    numbers = [sum(thing) for thing, _ in product(left, right)]
                    self.assertEqual(max(numbers), 10)

    def test_nothing_on_one_side_raises_nothing(self):
        for product in ALL_FOUR:
            for one in [single((10,)), (((1, 9), 1), ((10,), 1)), ()]:
                self.assertEqual(product(one, ()), ())
                self.assertEqual(product((), one), ())


class ByName(unittest.TestCase):
    def test_all_arguments_by_name(self):
        one, other = single((2,)), single((1,))
        self.assertEqual(products.overlaid(one=one, other=other), (((1, 2), 1), ((2, 1), 1), ((3,), 1)))
        self.assertEqual(products.run_product(other=other, one=one), (((1, 2), 1), ((2, 1), 1), ((3,), 1)))
        self.assertEqual(products.behind(one=one, other=other), single((2, 1)))
        self.assertEqual(products.behind(other=other, one=one), single((2, 1)))
        self.assertEqual(products.ribbon_product(other=other, one=one), (((2, 1), 1), ((3,), 1)))


if __name__ == "__main__":
    unittest.main()
