"""Sums over listings: shuffles and runs [11], cuts [12], back listings [13], one after another [16]."""

import unittest

import oracles
from shuffledcuts import listings
from shuffledcuts.compositions import runs_of
from shuffledcuts.errors import CutError, NotFit, TooMany
from shuffledcuts.products import run_product
from shuffledcuts.sums import plus, times

PAIRS = [(u, v) for u in oracles.listings_up_to(5) for v in oracles.listings_up_to(5 - len(u))]
SIX = [((), (5, 0, 3, 1, 4, 2)), ((2, 0, 5, 4, 1, 3), ()), ((1, 0, 2), (2, 0, 1)), ((1, 0), (3, 0, 2, 1)),
       ((0, 3, 1, 2, 4), (0,)), ((0,), (4, 3, 2, 1, 0))]
SAMPLES = [(), (((), 1),), (((), -3), ((0, 1), 2)),
           *oracles.sample_sums(oracles.listings_up_to(3), 10, 6, "listings")]


def single(listing):
    return oracles.single(listing)


def everywhere(lead, one):
    return oracles.total((lead(thing), k) for thing, k in one)


def from_the_end(listing):
    return listing[::-1]


def of_one_length(n):
    return [(), *oracles.sample_sums(oracles.listings(n), 6, 8, n)]


class Shuffled(unittest.TestCase):
    def check_too_many(self, one, other):
        with self.assertRaises(CutError) as caught:
            listings.shuffled(one, other)
        self.assertIs(type(caught.exception), TooMany)
        self.assertEqual(caught.exception.limit, 6)

    def test_examples(self):
        self.assertEqual(listings.shuffled(single((0,)), single((0,))), (((0, 1), 1), ((1, 0), 1)))
        self.assertEqual(listings.shuffled(single((1, 0)), single((0,))),
                         (((1, 0, 2), 1), ((1, 2, 0), 1), ((2, 1, 0), 1)))

    def test_single_listings_by_the_rule(self):
        for u, v in PAIRS + SIX:
            wanted = tuple((w, 1) for w in sorted(oracles.shuffle_pair(u, v)))
            self.assertEqual(listings.shuffled(single(u), single(v)), wanted)
            self.assertEqual(len(wanted), oracles.choose(len(u) + len(v), len(u)))

    def test_sums_by_additivity(self):
        for one in SAMPLES:
            for other in SAMPLES:
                found = listings.shuffled(one, other)
                self.assertEqual(found, oracles.product(oracles.shuffle_pair, one, other))
                self.assertTrue(oracles.is_sum(found))

    def test_nothing_and_the_empty_listing(self):
        for one in SAMPLES:
            self.assertEqual(listings.shuffled(one, ()), ())
            self.assertEqual(listings.shuffled((), one), ())
            self.assertEqual(listings.shuffled(one, single(())), one)
            self.assertEqual(listings.shuffled(single(()), one), one)

    def test_listings_read_from_their_ends(self):
        for one, other in [(single(u), single(v)) for u, v in PAIRS + SIX] + list(zip(SAMPLES, SAMPLES[2:])):
            self.assertEqual(everywhere(from_the_end, listings.shuffled(one, other)),
                             listings.shuffled(everywhere(from_the_end, one), everywhere(from_the_end, other)))

    def test_any_grouping(self):
        small = [(), *oracles.sample_sums(oracles.listings_up_to(2), 8, 3, "small listings")]
        for one, other, third in zip(small, small[1:] + small[:1], small[4:] + small[:4]):
            self.assertEqual(listings.shuffled(listings.shuffled(one, other), third),
                             listings.shuffled(one, listings.shuffled(other, third)))
        for u, v, w in [((1, 0), (0,), (2, 0, 1)), ((0,), (1, 0), (0, 1)), ((), (0, 1), (1, 0))]:
            self.assertEqual(listings.shuffled(listings.shuffled(single(u), single(v)), single(w)),
                             listings.shuffled(single(u), listings.shuffled(single(v), single(w))))

    def test_two_sums_may_not_be_exchanged(self):
        one, other = single((1, 0)), single((0,))
        self.assertNotEqual(listings.shuffled(one, other), listings.shuffled(other, one))

    def test_above_six(self):
        six = (5, 3, 1, 0, 2, 4)
        self.check_too_many(single(six), single((0,)))
        self.check_too_many(single((0,)), single(six))
        self.check_too_many(single((0, 1, 2)), single((3, 2, 1, 0)))
        self.check_too_many(single(six), single(six))
        self.check_too_many((((), 1), ((0, 1, 2), 2), ((1, 0), 1)), (((), 1), ((0, 1, 2, 3), 2), ((1, 0), 1)))
        self.check_too_many((((0,), 1), ((0, 1, 2, 3, 4), 1), ((1, 0), 1)), (((), 4), ((0,), 1), ((1, 0), 1)))

    def test_just_six_is_let(self):
        one = (((), 1), ((0, 1, 2), 2), ((1, 0), 1))
        other = (((), 1), ((0, 2, 1), 2), ((1, 0), 1))
        self.assertEqual(max(len(w) for w, _ in listings.shuffled(one, other)), 6)
        self.assertEqual(len(listings.shuffled(single((2, 1, 0)), single((0, 1, 2)))), 20)
        six = single((5, 3, 1, 0, 2, 4))
        self.assertEqual(listings.shuffled(six, single(())), six)

    def test_nothing_on_one_side_raises_nothing(self):
        self.assertEqual(listings.shuffled(single((5, 3, 1, 0, 2, 4)), ()), ())
        self.assertEqual(listings.shuffled((), single((5, 3, 1, 0, 2, 4))), ())


class RunSum(unittest.TestCase):
    def test_run_sum(self):
        self.assertEqual(listings.run_sum(()), ())
        self.assertEqual(listings.run_sum((((), 4),)), (((), 4),))
        self.assertEqual(listings.run_sum((((0, 2, 1), 2), ((1, 2, 0), 3), ((2, 1, 0), 1))), (((1, 1, 1), 1), ((2, 1), 5)))
        for one in SAMPLES + oracles.sample_sums(oracles.listings_up_to(6), 10, 200, "runs"):
            found = listings.run_sum(one)
            self.assertEqual(found, everywhere(oracles.runs, one))
            self.assertTrue(oracles.is_sum(found))

    def test_numbers_that_cancel(self):
        self.assertEqual(listings.run_sum((((0, 2, 1), 2), ((1, 2, 0), -2))), ())
        self.assertEqual(listings.run_sum((((0,), 1), ((0, 2, 1), 2), ((1, 2, 0), -2))), (((1,), 1),))

    def test_it_leads_shuffled_to_run_product(self):
        for one, other in [(single(u), single(v)) for u, v in PAIRS + SIX] + list(zip(SAMPLES, SAMPLES[2:])):
            self.assertEqual(listings.run_sum(listings.shuffled(one, other)),
                             run_product(listings.run_sum(one), listings.run_sum(other)))


class Cuts(unittest.TestCase):
    def test_examples(self):
        self.assertEqual(listings.listing_cuts(()), ())
        self.assertEqual(listings.listing_cuts((((), 3),)), ((((), ()), 3),))
        self.assertEqual(listings.listing_cuts(single((2, 0, 1))),
                         ((((), (2, 0, 1)), 1), (((0,), (0, 1)), 1), (((1, 0), (0,)), 1), (((2, 0, 1), ()), 1)))

    def test_all_single_listings(self):
        for listing in oracles.listings_up_to(6):
            found = listings.listing_cuts(single(listing))
            wanted = [(oracles.leveled(listing[:at]), oracles.leveled(listing[at:])) for at in range(len(listing) + 1)]
            self.assertEqual(found, oracles.total((pair, 1) for pair in wanted))
            self.assertEqual(len(found), len(listing) + 1)
            self.assertTrue(oracles.is_sum(found))

    def test_sums(self):
        for one in SAMPLES + oracles.sample_sums(oracles.listings_up_to(5), 10, 40, "cuts"):
            terms = [((oracles.leveled(w[:at]), oracles.leveled(w[at:])), k) for w, k in one for at in range(len(w) + 1)]
            self.assertEqual(listings.listing_cuts(one), oracles.total(terms))
        self.assertEqual(listings.listing_cuts((((0, 1), 1), ((1, 0), -1))),
                         ((((), (0, 1)), 1), (((), (1, 0)), -1), (((0, 1), ()), 1), (((1, 0), ()), -1)))


class BackListing(unittest.TestCase):
    def test_back_listing(self):
        self.assertEqual(listings.back_listing(()), ())
        self.assertEqual(listings.back_listing((2, 0, 1)), (1, 2, 0))
        for listing in oracles.listings_up_to(6):
            found = listings.back_listing(listing)
            self.assertTrue(oracles.is_plain(found))
            self.assertEqual(sorted(found), list(range(len(listing))))
            self.assertTrue(all(found[entry] == at for at, entry in enumerate(listing)))
            self.assertEqual(listings.back_listing(found), listing)


class Then(unittest.TestCase):
    def check_not_fit(self, one, other):
        with self.assertRaises(CutError) as caught:
            listings.then(one, other)
        self.assertIs(type(caught.exception), NotFit)

    def test_single_listings(self):
        self.assertEqual(listings.then(single((1, 2, 0)), single((0, 2, 1))), single((2, 1, 0)))
        for n in range(5):
            for u in oracles.listings(n):
                for v in oracles.listings(n):
                    wanted = tuple(v[u[at]] for at in range(n))
                    self.assertEqual(listings.then(single(u), single(v)), single(wanted))

    def test_sums_by_additivity(self):
        for n in range(7):
            for one in of_one_length(n):
                for other in of_one_length(n):
                    found = listings.then(one, other)
                    terms = [(tuple(v[entry] for entry in u), k * j) for u, k in one for v, j in other]
                    self.assertEqual(found, oracles.total(terms))
                    self.assertTrue(oracles.is_sum(found))

    def test_additive_in_both(self):
        rows = of_one_length(4)
        for one, other, third in zip(rows, rows[1:], rows[2:]):
            self.assertEqual(listings.then(plus(one, times(3, other)), third),
                             plus(listings.then(one, third), times(3, listings.then(other, third))))
            self.assertEqual(listings.then(third, plus(one, times(-2, other))),
                             plus(listings.then(third, one), times(-2, listings.then(third, other))))

    def test_a_listing_and_its_back_listing(self):
        for listing in oracles.listings_up_to(5):
            same = single(tuple(range(len(listing))))
            back = single(listings.back_listing(listing))
            self.assertEqual(listings.then(single(listing), back), same)
            self.assertEqual(listings.then(back, single(listing)), same)

    def test_unlike_numbers(self):
        mixed = (((0, 1), 1), ((0, 1, 2), 1))
        for one, other in [(single((0,)), single((0, 1))), (single(()), single((0,))), (mixed, ()),
                           (mixed, single((0, 1))), (mixed, single((2, 0, 1))), (mixed, mixed),
                           (single((1, 0)), single((1, 0, 2))), ((((), 1), ((0,), 1)), ())]:
            self.check_not_fit(one, other)
            self.check_not_fit(other, one)

    def test_nothing(self):
        self.assertEqual(listings.then((), ()), ())
        self.assertEqual(listings.then((), single((1, 0))), ())
        self.assertEqual(listings.then((((0, 1), 2), ((1, 0), 1)), ()), ())
        self.assertEqual(listings.then(single(()), single(())), single(()))


class ByName(unittest.TestCase):
    def test_all_arguments_by_name(self):
        self.assertEqual(listings.shuffled(other=single((0,)), one=single((1, 0))),
                         (((1, 0, 2), 1), ((1, 2, 0), 1), ((2, 1, 0), 1)))
        self.assertEqual(listings.run_sum(one=single((1, 0))), single((1, 1)))
        self.assertEqual(listings.listing_cuts(one=single((0,))), ((((), (0,)), 1), (((0,), ()), 1)))
        self.assertEqual(listings.back_listing(listing=(1, 2, 0)), (2, 0, 1))
        self.assertEqual(listings.then(other=single((0, 2, 1)), one=single((1, 2, 0))), single((2, 1, 0)))
        self.assertEqual(runs_of(listing=(0, 1)), (2,))


if __name__ == "__main__":
    unittest.main()
