"""The one sum for each thing that a judge tells [26], peaks and their sums [27]."""

import itertools
import math
import time
import unittest

import oracles
from shuffledcuts import judges, orders, webs
from shuffledcuts.bases import plain_of_runs
from shuffledcuts.cuts import plain_cuts, run_cuts
from shuffledcuts.fillings import order_sum
from shuffledcuts.listings import run_sum, shuffled
from shuffledcuts.products import overlaid, run_product
from shuffledcuts.sums import times
from shuffledcuts.turns import turned_back
from test_orders import ORDERS
from test_webs import WEBS, all_ties

OF_LISTINGS = ("rising", "falling", "both")
OF_ORDERS = ("rising", "falling")
OF_WEBS = ("tieless", "any")
SOON = 20


def single(thing):
    return oracles.single(thing)


def parts_by_sizes(listing, composition):
    ends = list(itertools.accumulate(composition))
    return [listing[end - size:end] for end, size in zip(ends, composition)]


def is_rising(row):
    return list(row) == sorted(row)


def is_falling(row):
    return list(row) == sorted(row, reverse=True)


def judge_listing(listing, judge):
    if judge == "rising":
        return int(is_rising(listing))
    if judge == "falling":
        return int(is_falling(listing))
    return sum(is_falling(listing[:at]) and is_rising(listing[at:]) for at in range(len(listing) + 1))


def listing_told(listing, judge):
    return oracles.total((c, math.prod(judge_listing(oracles.leveled(part), judge)
                                       for part in parts_by_sizes(listing, c)))
                         for c in oracles.compositions(len(listing)))


def rows_of_parts(n):
    """All ways to put n things into places 1, 2, .., none of them left empty."""
    for row in itertools.product(range(n), repeat=n):
        many = max(row, default=-1) + 1
        parts = [tuple(x for x in range(n) if row[x] == k) for k in range(many)]
        if all(parts):
            yield row, parts


def order_told(order, judge):
    n, pairs = order
    terms = []
    for row, parts in rows_of_parts(n):
        if all(row[x] <= row[y] for x, y in pairs):
            within = [(x, y) for x, y in pairs if row[x] == row[y]]
            wrong = any((y < x) if judge == "rising" else (y > x) for x, y in within)
            terms.append((tuple(map(len, parts)), int(not wrong)))
    return oracles.total(terms)


def web_told(web, judge):
    n, ties = web
    return oracles.total((tuple(map(len, parts)),
                          int(judge == "any" or not any(row[x] == row[y] for x, y in ties)))
                         for row, parts in rows_of_parts(n))


def pairs_told(cuts, told):
    """The sum over pairs with both things of each pair replaced by what is told of them."""
    return oracles.everywhere(lambda pair: [((a, b), k * j) for a, k in told(pair[0]) for b, j in told(pair[1])], cuts)


class Listings(unittest.TestCase):
    def test_examples(self):
        self.assertEqual(judges.told_listings(single((0, 1)), "rising"), (((1, 1), 1), ((2,), 1)))
        self.assertEqual(judges.told_listings(single((0, 1)), "falling"), (((1, 1), 1),))
        self.assertEqual(judges.told_listings(single((1, 0)), "falling"), (((1, 1), 1), ((2,), 1)))
        self.assertEqual(judges.told_listings(single((1, 0, 2)), "both"),
                         (((1, 1, 1), 8), ((1, 2), 4), ((2, 1), 4), ((3,), 2)))
        self.assertEqual(judges.told_listings(single((0, 2, 1)), "both"), (((1, 1, 1), 8), ((1, 2), 4), ((2, 1), 4)))

    def test_the_sum_of_nothing_and_the_empty_listing(self):
        for judge in OF_LISTINGS:
            self.assertEqual(judges.told_listings((), judge), ())
            self.assertEqual(judges.told_listings((((), -7),), judge), (((), -7),))
            self.assertEqual(judges.told_listings(single((0,)), judge), (((1,), 2 if judge == "both" else 1),))

    def test_by_the_rule_of_cutting(self):
        for judge in OF_LISTINGS:
            for w in oracles.listings_up_to(5) + oracles.listings(6)[::11]:
                found = judges.told_listings(single(w), judge)
                self.assertEqual(found, listing_told(w, judge))
                self.assertTrue(oracles.is_sum(found))

    def test_both_by_the_runs(self):
        for w in oracles.listings_up_to(6):
            runs = oracles.runs(w)
            wanted = 1 if not w else 2 if all(k == 1 for k in runs[:-1]) else 0
            self.assertEqual(judge_listing(w, "both"), wanted)

    def test_sums(self):
        for judge in OF_LISTINGS:
            for one in oracles.sample_sums(oracles.listings_up_to(5), 12, 9, "told"):
                self.assertEqual(judges.told_listings(one, judge),
                                 oracles.everywhere(lambda w: listing_told(w, judge), one))

    def test_numbers_that_take_one_another_away(self):
        one = (((0, 1, 2), 1), ((1, 0, 2), -1), ((2, 0, 1), 1), ((2, 1, 0), -1))
        self.assertEqual(judges.told_listings(one, "rising"), (((1, 2), 1), ((2, 1), 1), ((3,), 1)))
        self.assertEqual(judges.told_listings((((0, 2, 1), 1), ((1, 2, 0), -1)), "falling"), ())

    def test_rising_is_told_by_the_runs(self):
        for one in oracles.sample_sums(oracles.listings_up_to(6), 12, 9, "runs told"):
            self.assertEqual(judges.told_listings(one, "rising"), plain_of_runs(run_sum(one)))

    def test_falling_is_told_by_the_other_side_of_the_runs(self):
        for w in oracles.listings_up_to(6):
            other_side = oracles.runs(tuple(len(w) - 1 - entry for entry in w))
            self.assertEqual(judges.told_listings(single(w), "falling"),
                             oracles.total((b, 1) for b in oracles.finer(other_side)))

    def test_shuffles(self):
        for judge in OF_LISTINGS:
            rows = [(), *oracles.sample_sums(oracles.listings_up_to(3), 6, 4, "shuffled " + judge)]
            for one in rows:
                for other in rows:
                    self.assertEqual(judges.told_listings(shuffled(one, other), judge),
                                     overlaid(judges.told_listings(one, judge), judges.told_listings(other, judge)))

    def test_cuts(self):
        for judge in OF_LISTINGS:
            for one in oracles.sample_sums(oracles.listings_up_to(5), 8, 5, "cut " + judge):
                self.assertEqual(plain_cuts(judges.told_listings(one, judge)),
                                 pairs_told(oracles.cut_sum(one, "listings"),
                                            lambda w: judges.told_listings(single(w), judge)))


class Orders(unittest.TestCase):
    def test_examples(self):
        self.assertEqual(judges.told_orders((2, ((0, 1),)), "rising"), (((1, 1), 1), ((2,), 1)))
        self.assertEqual(judges.told_orders((2, ((0, 1),)), "falling"), (((1, 1), 1),))
        self.assertEqual(judges.told_orders((2, ((1, 0),)), "falling"), (((1, 1), 1), ((2,), 1)))
        self.assertEqual(judges.told_orders((2, ()), "falling"), (((1, 1), 2), ((2,), 1)))

    def test_the_order_of_no_thing(self):
        for judge in OF_ORDERS:
            self.assertEqual(judges.told_orders((0, ()), judge), (((), 1),))

    def test_by_the_rule_of_cutting(self):
        for judge in OF_ORDERS:
            for order in [order for order in ORDERS if order[0] <= 5]:
                found = judges.told_orders(order, judge)
                self.assertEqual(found, order_told(order, judge))
                self.assertTrue(oracles.is_sum(found))
        self.assertEqual(judges.told_orders(ORDERS[-8], "falling"), order_told(ORDERS[-8], "falling"))

    def test_rising_is_told_by_the_fillings(self):
        for order in ORDERS:
            self.assertEqual(judges.told_orders(order, "rising"), plain_of_runs(order_sum(order)))

    def test_falling_is_told_by_the_order_swapped(self):
        for order in ORDERS:
            self.assertEqual(judges.told_orders(order, "falling"),
                             judges.told_orders(orders.swapped(order), "rising"))

    def test_orders_beside_one_another(self):
        for judge in OF_ORDERS:
            for one in ORDERS[::4]:
                for other in ORDERS[::5]:
                    if one[0] + other[0] <= 7:
                        self.assertEqual(judges.told_orders(orders.beside_order(one, other), judge),
                                         overlaid(judges.told_orders(one, judge), judges.told_orders(other, judge)))

    def test_cuts(self):
        for judge in OF_ORDERS:
            for order in [order for order in ORDERS if order[0] <= 6]:
                wanted = []
                for lot in orders.lower_lots(order):
                    rest = tuple(x for x in range(order[0]) if x not in lot)
                    pair = (orders.part_order(order, lot), orders.part_order(order, rest))
                    wanted.extend(pairs_told(single(pair), lambda part: judges.told_orders(part, judge)))
                self.assertEqual(plain_cuts(judges.told_orders(order, judge)), oracles.total(wanted))


class Webs(unittest.TestCase):
    def test_the_web_of_no_place(self):
        for judge in OF_WEBS:
            self.assertEqual(judges.told_webs((0, ()), judge), (((), 1),))

    def test_by_the_rule_of_cutting(self):
        for judge in OF_WEBS:
            for web in [web for web in WEBS if web[0] <= 5]:
                found = judges.told_webs(web, judge)
                self.assertEqual(found, web_told(web, judge))
                self.assertTrue(oracles.is_sum(found))

    def test_tieless_is_the_web_sum(self):
        for web in WEBS:
            self.assertEqual(judges.told_webs(web, "tieless"), webs.web_sum(web))

    def test_any_by_the_factorials(self):
        for web in WEBS + [(7, all_ties(7))]:
            wanted = tuple((c, math.factorial(web[0]) // math.prod(map(math.factorial, c)))
                           for c in oracles.compositions(web[0]))
            self.assertEqual(judges.told_webs(web, "any"), wanted)

    def test_webs_beside_one_another(self):
        for judge in OF_WEBS:
            for one in WEBS[::3]:
                for other in WEBS[::4]:
                    if one[0] + other[0] <= 7:
                        self.assertEqual(judges.told_webs(webs.beside_web(one, other), judge),
                                         overlaid(judges.told_webs(one, judge), judges.told_webs(other, judge)))

    def test_cuts(self):
        for judge in OF_WEBS:
            for web in [web for web in WEBS if web[0] <= 5]:
                wanted = []
                for size in range(web[0] + 1):
                    for lot in itertools.combinations(range(web[0]), size):
                        rest = tuple(x for x in range(web[0]) if x not in lot)
                        pair = (webs.part_web(web, lot), webs.part_web(web, rest))
                        wanted.extend(pairs_told(single(pair), lambda part: judges.told_webs(part, judge)))
                self.assertEqual(plain_cuts(judges.told_webs(web, judge)), oracles.total(wanted))


def peaks(composition):
    places = oracles.places(composition)
    return tuple(sorted(p for p in places if p > 1 and p - 1 not in places))


def rows_of_peaks(n):
    found = []
    for size in range(n):
        for row in itertools.combinations(range(2, n), size):
            if all(high - low > 1 for low, high in zip(row, row[1:])):
                found.append(row)
    return found if n else [()]


def sum_by_the_rule(n, row):
    return oracles.total((b, 2 ** len(b)) for b in oracles.compositions(n)
                         if all({p, p - 1} & oracles.places(b) for p in row))


class Peaks(unittest.TestCase):
    def test_examples(self):
        self.assertEqual(judges.peaks_of((2, 2, 1)), (2, 4))
        self.assertEqual(judges.peaks_of((1, 1, 3)), ())
        self.assertEqual(judges.peaks_of((1, 2, 1, 1)), (3,))
        self.assertEqual(judges.peaks_of(()), ())
        self.assertEqual(judges.peaks_of((10,)), ())

    def test_all_compositions(self):
        for c in oracles.compositions_up_to(10):
            found = judges.peaks_of(c)
            self.assertEqual(found, peaks(c))
            self.assertTrue(oracles.is_plain(found))
            self.assertIn(found, rows_of_peaks(sum(c)))

    def test_as_many_as_fibonaccis_numbers_tell(self):
        low, high = 1, 1
        for n in range(1, 11):
            found = {judges.peaks_of(c) for c in oracles.compositions(n)}
            self.assertEqual(found, set(rows_of_peaks(n)))
            self.assertEqual(len(found), low)
            self.assertEqual(len({judges.peak_sum(n, row) for row in found}), low)
            low, high = high, low + high


class PeakSum(unittest.TestCase):
    def test_examples(self):
        self.assertEqual(judges.peak_sum(0, ()), (((), 1),))
        self.assertEqual(judges.peak_sum(1, ()), (((1,), 2),))
        self.assertEqual(judges.peak_sum(2, ()), (((1, 1), 4), ((2,), 2)))
        self.assertEqual(judges.peak_sum(3, (2,)), (((1, 1, 1), 8), ((1, 2), 4), ((2, 1), 4)))

    def test_by_the_rule(self):
        for n in range(11):
            for row in rows_of_peaks(n):
                found = judges.peak_sum(n, row)
                self.assertEqual(found, sum_by_the_rule(n, row))
                self.assertTrue(oracles.is_sum(found))

    def test_listings_that_both_tells(self):
        for w in oracles.listings_up_to(6):
            self.assertEqual(judges.told_listings(single(w), "both"),
                             judges.peak_sum(len(w), judges.peaks_of(oracles.runs(w))))

    def test_turned_back(self):
        for n in range(9):
            for row in rows_of_peaks(n):
                about = tuple(n + 1 - p for p in reversed(row))
                self.assertEqual(turned_back(judges.peak_sum(n, row), "plain"),
                                 times(oracles.sign(n), judges.peak_sum(n, about)))

    def test_products_of_one_thing(self):
        product = (((), 1),)
        for n in range(1, 7):
            product = overlaid(product, judges.peak_sum(1, ()))
            wanted = oracles.everywhere(lambda w: judges.peak_sum(len(w), peaks(oracles.runs(w))),
                                        tuple((w, 1) for w in oracles.listings(n)))
            self.assertEqual(product, wanted)

    def test_products_and_cuts_are_told_by_peak_sums(self):
        def told(c):
            return judges.peak_sum(sum(c), judges.peaks_of(c))
        for a in oracles.compositions_up_to(4):
            self.assertEqual(plain_cuts(told(a)), pairs_told(run_cuts(single(a)), told))
            for b in oracles.compositions_up_to(3):
                self.assertEqual(overlaid(told(a), told(b)),
                                 oracles.everywhere(told, run_product(single(a), single(b))))

    def test_like_peaks_have_like_products(self):
        def peaks_told(one):
            return oracles.everywhere(lambda c: judges.peak_sum(sum(c), judges.peaks_of(c)), one)
        found = {}
        for a in oracles.compositions_up_to(4):
            for b in oracles.compositions_up_to(3):
                key = (sum(a), peaks(a), sum(b), peaks(b))
                found.setdefault(key, set()).add(peaks_told(run_product(single(a), single(b))))
        self.assertTrue(all(len(sums) == 1 for sums in found.values()))


class Times(unittest.TestCase):
    def test_great_things_end_soon(self):
        start = time.process_time()
        every = tuple((w, 1) for w in oracles.listings(6))
        for judge in OF_LISTINGS:
            judges.told_listings(every, judge)
        for judge in OF_ORDERS:
            judges.told_orders((7, ()), judge)
        for judge in OF_WEBS:
            judges.told_webs((7, all_ties(7)), judge)
        self.assertLess(time.process_time() - start, SOON)


class ByName(unittest.TestCase):
    def test_all_arguments_by_name(self):
        self.assertEqual(judges.told_listings(judge="rising", one=single((0,))), single((1,)))
        self.assertEqual(judges.told_orders(judge="falling", order=(1, ())), single((1,)))
        self.assertEqual(judges.told_webs(judge="any", web=(1, ())), single((1,)))
        self.assertEqual(judges.peaks_of(composition=(2, 1)), (2,))
        self.assertEqual(judges.peak_sum(peaks=(), n=1), (((1,), 2),))


if __name__ == "__main__":
    unittest.main()
