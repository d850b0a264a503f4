"""Wide and narrow lots of listings [16], one after another by tables, and counted by boxes [17]."""

import functools
import itertools
import math
import time
import unittest

import oracles
from shuffledcuts import lots
from shuffledcuts.errors import CutError, TooMany
from shuffledcuts.listings import then
from shuffledcuts.sums import plus, times

SMALL = [(a, b) for n in range(6) for a in oracles.compositions(n) for b in oracles.compositions(n)]
SAMPLES = [(), (((), -2),), (((), 3), ((1, 1), 2), ((2, 1), -1)),
           *oracles.sample_sums(oracles.compositions_up_to(4), 8, 8, "lots")]
# Just more than 10000 tables, and just fewer.
MANY = [((1,) * 8, (1,) * 8), ((1,) * 10, (1,) * 10), ((2, 1, 1, 1, 1, 1, 1, 1, 1), (5, 1, 1, 1, 1, 1)),
        ((1, 1, 1, 1, 1, 1, 1, 3), (4, 1, 1, 1, 1, 1, 1)), ((1, 1, 1, 1, 1, 1, 1, 1, 1), (2, 1, 1, 1, 1, 1, 1, 1))]
FEW = [((2, 2, 2, 1, 1, 1, 1), (3, 3, 2, 1, 1)), ((2, 1, 1, 1, 1, 1, 1, 1, 1), (5, 2, 1, 1, 1)),
       ((1, 3, 1, 1, 1, 1, 1, 1), (1, 1, 5, 1, 1, 1)), ((1,) * 10, (5, 2, 2, 1)), ((1,) * 10, (4, 4, 1, 1)),
       ((2, 2, 2, 2, 2), (2, 2, 2, 2, 2)), ((1,) * 7, (1,) * 7)]
SOON = 20


def single(thing):
    return oracles.single(thing)


def rows_adding_to(total, columns):
    return [row for row in itertools.product(*(range(k + 1) for k in columns)) if sum(row) == total]


@functools.lru_cache(maxsize=None)
def tables(a, b):
    """All tables, each as a tuple of rows, picked from all tables with the row sums a."""
    if sum(a) != sum(b):
        return []
    found = []
    for rows in itertools.product(*(rows_adding_to(k, b) for k in a)):
        if all(sum(row[at] for row in rows) == k for at, k in enumerate(b)):
            found.append(rows)
    return found


def table_rule(a, b):
    return [tuple(k for row in rows for k in row if k) for rows in tables(a, b)]


def number_of_tables(a, b):
    """How many tables there are, by what the columns have left row by row."""
    left = {b: 1}
    for k in a:
        following = {}
        for columns, ways in left.items():
            for row in rows_adding_to(k, columns):
                rest = tuple(column - i for column, i in zip(columns, row))
                following[rest] = following.get(rest, 0) + ways
        left = following
    return sum(left.values())


def lot_of(one, lot):
    return oracles.everywhere(lot, one)


def partitions(n):
    return [c for c in oracles.compositions(n) if list(c) == sorted(c, reverse=True)]


def ways_to_fill(entries, boxes):
    """In how many ways entries, each taken apart, fill boxes just: picked from all ways to put them anywhere."""
    ways = 0
    for places in itertools.product(range(len(boxes)), repeat=len(entries)):
        filled = [0] * len(boxes)
        for entry, place in zip(entries, places):
            filled[place] += entry
        ways += tuple(filled) == tuple(boxes)
    return ways


class Checked(unittest.TestCase):
    def check_too_many(self, limit, function, *arguments):
        with self.assertRaises(CutError) as caught:
            function(*arguments)
        self.assertIs(type(caught.exception), TooMany)
        self.assertEqual(caught.exception.limit, limit)


class Lots(Checked):
    def test_examples(self):
        self.assertEqual(lots.wide_lot((1, 2)), (((0, 1, 2), 1), ((1, 0, 2), 1), ((2, 0, 1), 1)))
        self.assertEqual(lots.narrow_lot((1, 2)), (((1, 0, 2), 1), ((2, 0, 1), 1)))
        self.assertEqual(lots.wide_lot(()), single(()))
        self.assertEqual(lots.narrow_lot(()), single(()))

    def test_by_the_runs_of_all_listings(self):
        for n in range(7):
            for c in oracles.compositions(n):
                wide = tuple((w, 1) for w in oracles.listings(n) if oracles.places(oracles.runs(w)) <= oracles.places(c))
                narrow = tuple((w, 1) for w in oracles.listings(n) if oracles.runs(w) == c)
                self.assertEqual(lots.wide_lot(c), wide)
                self.assertEqual(lots.narrow_lot(c), narrow)
                self.assertTrue(oracles.is_sum(lots.wide_lot(c)) and oracles.is_sum(lots.narrow_lot(c)))

    def test_above_six(self):
        for c in [(7,), (1,) * 7, (3, 4), (10,), (1,) * 10]:
            self.check_too_many(6, lots.wide_lot, c)
            self.check_too_many(6, lots.narrow_lot, c)


class LotProduct(Checked):
    def test_examples(self):
        self.assertEqual(lots.lot_product(single((1, 1)), single((1, 1))), (((1, 1), 2),))
        self.assertEqual(lots.lot_product(single((1, 2)), single((2, 1))), (((1, 1, 1), 1), ((1, 2), 1)))
        self.assertEqual(lots.lot_product(single((2, 1)), single((1, 2))), (((1, 1, 1), 1), ((2, 1), 1)))

    def test_pairs_of_compositions_by_all_tables(self):
        for a, b in SMALL:
            wanted = oracles.total((c, 1) for c in table_rule(a, b))
            self.assertEqual(lots.lot_product(single(a), single(b)), wanted)

    def test_sums_by_additivity(self):
        for one in SAMPLES:
            for other in SAMPLES:
                found = lots.lot_product(one, other)
                self.assertEqual(found, oracles.product(table_rule, one, other))
                self.assertTrue(oracles.is_sum(found))

    def test_unlike_numbers(self):
        self.assertEqual(lots.lot_product(single((2, 1)), single((2, 2))), ())
        self.assertEqual(lots.lot_product(single(()), single((1,))), ())
        self.assertEqual(lots.lot_product(single((1,) * 10), single((1,) * 9)), ())
        self.assertEqual(lots.lot_product((((), 2), ((3,), 1)), (((), 5), ((1, 1), 7))), (((), 10),))

    def test_by_then_of_the_wide_lots(self):
        for n in range(5):
            for a in oracles.compositions(n):
                for b in oracles.compositions(n):
                    self.assertEqual(lot_of(lots.lot_product(single(a), single(b)), lots.wide_lot),
                                     then(lots.wide_lot(a), lots.wide_lot(b)))
        for a, b in [((1, 4), (2, 3)), ((2, 1, 2), (3, 2)), ((1, 2, 3), (4, 2)), ((5, 1), (1, 3, 2))]:
            self.assertEqual(lot_of(lots.lot_product(single(a), single(b)), lots.wide_lot),
                             then(lots.wide_lot(a), lots.wide_lot(b)))

    def test_one_entry_changes_nothing(self):
        for c in oracles.compositions_up_to(6)[1:] + [(1,) * 10, (2, 3, 1, 4), (10,)]:
            self.assertEqual(lots.lot_product(single(c), single((sum(c),))), single(c))
            self.assertEqual(lots.lot_product(single((sum(c),)), single(c)), single(c))

    def test_products_behind_one_another(self):
        for f in oracles.compositions_up_to(3):
            for g in oracles.compositions_up_to(3):
                for h in oracles.compositions(sum(f) + sum(g)):
                    left = lots.lot_product(single(f + g), single(h))
                    right = oracles.everywhere(
                        lambda pair: oracles.multiply(lots.lot_product(single(f), single(pair[0])),
                                                      lots.lot_product(single(g), single(pair[1])), "wholes"),
                        oracles.cut_sum(single(h), "wholes"))
                    self.assertEqual(left, right)

    def test_any_grouping(self):
        for product in (lots.lot_product, lots.narrow_product):
            rows = [oracles.total((c, at - 3) for at, c in enumerate(oracles.compositions(4))),
                    *oracles.sample_sums(oracles.compositions(4), 5, 5, "grouping"), *SAMPLES[:5]]
            for one, other, third in zip(rows, rows[1:] + rows[:1], rows[3:] + rows[:3]):
                self.assertEqual(product(product(one, other), third), product(one, product(other, third)))

    def test_additive_in_both(self):
        for product in (lots.lot_product, lots.narrow_product):
            for one, other, third in zip(SAMPLES, SAMPLES[1:], SAMPLES[2:]):
                self.assertEqual(product(plus(one, times(-2, other)), third),
                                 plus(product(one, third), times(-2, product(other, third))))
                self.assertEqual(product(third, plus(one, times(-2, other))),
                                 plus(product(third, one), times(-2, product(third, other))))


class NarrowProduct(Checked):
    def test_by_the_lots_themselves(self):
        for n in range(5):
            for a in oracles.compositions(n):
                for b in oracles.compositions(n):
                    found = lots.narrow_product(single(a), single(b))
                    self.assertEqual(lot_of(found, lots.narrow_lot), then(lots.narrow_lot(a), lots.narrow_lot(b)))
                    self.assertTrue(oracles.is_sum(found))
        for a, b in [((1, 4), (2, 3)), ((2, 1, 2), (3, 2)), ((1, 2, 2, 1), (4, 2)), ((1,) * 6, (1, 3, 2))]:
            self.assertEqual(lot_of(lots.narrow_product(single(a), single(b)), lots.narrow_lot),
                             then(lots.narrow_lot(a), lots.narrow_lot(b)))

    def test_told_by_wide_lots(self):
        for one in SAMPLES:
            for other in SAMPLES:
                wide = [oracles.total((b, k * oracles.sign(len(c) - len(b))) for c, k in each for b in oracles.coarser(c))
                        for each in (one, other)]
                wanted = oracles.everywhere(lambda c: [(b, 1) for b in oracles.coarser(c)],
                                            oracles.product(table_rule, *wide))
                self.assertEqual(lots.narrow_product(one, other), wanted)

    def test_unlike_numbers(self):
        self.assertEqual(lots.narrow_product(single((2, 1)), single((2, 2))), ())
        self.assertEqual(lots.narrow_product((((), 2), ((3,), 1)), (((), 5), ((1, 1), 7))), (((), 10),))

    def test_one_entry_changes_nothing(self):
        for c in oracles.compositions_up_to(6)[1:] + [(1,) * 10, (2, 3, 1, 4)]:
            self.assertEqual(lots.narrow_product(single(c), single((sum(c),))), single(c))
            self.assertEqual(lots.narrow_product(single((sum(c),)), single(c)), single(c))

    def test_ones_turn_from_the_end(self):
        # The narrow lot of ones is the one listing n - 1, .., 0.
        for c in [(10,), (3, 7), (4, 2, 4), (1, 2, 3), (2, 1, 1, 3), (1,) * 7]:
            n = sum(c)
            self.assertEqual(lots.narrow_product(single(c), single((1,) * n)), single(other_side(c)))
            self.assertEqual(lots.narrow_product(single((1,) * n), single(c)), single(other_side(c)[::-1]))


def other_side(c):
    n = sum(c)
    return oracles.from_places(n, sorted(set(range(1, n)) - oracles.places(c)))


class Limits(Checked):
    def test_the_examples_are_near_the_limit(self):
        for a, b in MANY:
            self.assertGreater(number_of_tables(a, b), 10000)
        self.assertEqual([number_of_tables(a, b) for a, b in FEW[:2]], [9708, 9408])
        self.assertTrue(all(number_of_tables(a, b) <= 10000 for a, b in FEW))

    def test_too_many_tables(self):
        start = time.process_time()
        for a, b in MANY:
            for product in (lots.lot_product, lots.narrow_product):
                self.check_too_many(10000, product, single(a), single(b))
                self.check_too_many(10000, product, single(b), single(a))
        self.assertLess(time.process_time() - start, SOON)

    def test_wherever_they_stand(self):
        a, b = MANY[2]
        one = tuple(sorted([((), 1), ((10,), 2), (a, -1), ((2, 3, 5), 4), ((1, 2), 1)]))
        other = tuple(sorted([((), 1), ((3,), 2), (b, 5), ((9, 1), 3)]))
        for product in (lots.lot_product, lots.narrow_product):
            self.check_too_many(10000, product, one, other)
            self.check_too_many(10000, product, other, one)

    def test_two_great_compositions_of_one_sum_alone(self):
        for product in (lots.lot_product, lots.narrow_product):
            self.assertEqual(product((((1,) * 10, 1),), ()), ())
            self.assertEqual(product(tuple(sorted([((1,) * 10, 1), ((1,) * 9, 1)])), single((8,))), ())

    def test_just_below_the_limit(self):
        start = time.process_time()
        for a, b in FEW:
            for one, other in ((a, b), (b, a)):
                found = lots.lot_product(single(one), single(other))
                self.assertEqual(sum(k for _, k in found), number_of_tables(a, b))
                narrow = lots.narrow_product(single(one), single(other))
                self.assertTrue(all(k > 0 for _, k in narrow))
        both = tuple(sorted((b, 1) for _, b in FEW if sum(b) == 10 and b != (1,) * 10))
        self.assertTrue(lots.lot_product(both, single((2, 2, 2, 3, 1))))
        self.assertTrue(lots.narrow_product(both, single((2, 2, 2, 3, 1))))
        self.assertLess(time.process_time() - start, SOON)

    def test_a_great_product_by_tables(self):
        a, b = FEW[-2]
        self.assertEqual(lots.lot_product(single((4, 6)), single(b)), oracles.total((c, 1) for c in table_rule((4, 6), b)))
        self.assertEqual(lots.lot_product(single(a), single((4, 6))), oracles.total((c, 1) for c in table_rule(a, (4, 6))))

    def test_listings_with_narrow_lots_add_up(self):
        # Each listing of the one lot and each of the other one give one listing.
        a, b = FEW[0]
        found = lots.narrow_product(single(a), single(b))
        self.assertEqual(sum(k * listings_with_runs(c) for c, k in found),
                         listings_with_runs(a) * listings_with_runs(b))


def listings_with_runs(composition):
    return sum(oracles.sign(len(composition) - len(c)) * parts(c) for c in oracles.coarser(composition))


def parts(composition):
    """How many ways there are to part as many things as its number into lots of these sizes."""
    return math.factorial(sum(composition)) // math.prod(math.factorial(k) for k in composition)


class LotCounts(unittest.TestCase):
    def test_examples(self):
        self.assertEqual(lots.lot_counts(single((1, 2))), (((1, 1, 1), 3), ((2, 1), 1), ((3,), 0)))
        self.assertEqual(lots.lot_counts((((), 4),)), (((), 4),))
        self.assertEqual(lots.lot_counts((((1, 1), 1), ((2,), -2))), (((1, 1), 0), ((2,), -2)))

    def test_single_compositions_by_filling_boxes(self):
        for n in range(7):
            for c in oracles.compositions(n):
                wanted = tuple((a, ways_to_fill(a, c)) for a in partitions(n))
                found = lots.lot_counts(single(c))
                self.assertEqual(found, wanted)
                self.assertTrue(oracles.is_plain(found))

    def test_compositions_of_ten(self):
        for c in [(10,), (1,) * 10, (3, 3, 4), (2, 2, 2, 2, 2), (5, 1, 4)]:
            found = lots.lot_counts(single(c))
            self.assertEqual([a for a, _ in found], partitions(10))
            self.assertEqual(dict(found)[(1,) * 10], parts(c))
            for a, k in found:
                if len(c) ** len(a) < 20000:
                    self.assertEqual(k, ways_to_fill(a, c))

    def test_sums(self):
        for n in range(6):
            for one in oracles.sample_sums(oracles.compositions(n), 6, 9, f"counts {n}"):
                wanted = tuple((a, sum(k * ways_to_fill(a, c) for c, k in one)) for a in partitions(n))
                self.assertEqual(lots.lot_counts(one), wanted)

    def test_products(self):
        for n in range(6):
            rows = [single(c) for c in oracles.compositions(n)]
            rows.extend(oracles.sample_sums(oracles.compositions(n), 3, 9, f"products {n}"))
            for one in rows:
                for other in rows:
                    product = lots.lot_product(one, other)
                    counts = tuple((a, k * j) for (a, k), (_, j) in zip(lots.lot_counts(one), lots.lot_counts(other)))
                    if product:
                        self.assertEqual(lots.lot_counts(product), counts)

    def test_entries_in_any_sequence(self):
        for c in oracles.compositions_up_to(6):
            self.assertEqual(lots.lot_counts(single(c)), lots.lot_counts(single(tuple(sorted(c)))))


class ByName(unittest.TestCase):
    def test_all_arguments_by_name(self):
        self.assertEqual(lots.wide_lot(composition=(2,)), single((0, 1)))
        self.assertEqual(lots.narrow_lot(composition=(1, 1)), single((1, 0)))
        self.assertEqual(lots.lot_product(other=single((2, 1)), one=single((1, 2))), (((1, 1, 1), 1), ((1, 2), 1)))
        self.assertEqual(lots.narrow_product(other=single((3,)), one=single((1, 2))), single((1, 2)))
        self.assertEqual(lots.lot_counts(one=single((2,))), (((1, 1), 1), ((2,), 1)))


if __name__ == "__main__":
    unittest.main()
