"""Labelled orders, their rows and lower lots [20]; orders beside, below, upside down and swapped [22]."""

import itertools
import random
import time
import unittest

import oracles
from shuffledcuts import orders
from shuffledcuts.errors import CutError, NotOrder, TooMany

SOON = 20


def closure(pairs):
    """All (x, z) to which the pairs lead, one step at a time."""
    found = set(pairs)
    while True:
        more = {(x, z) for x, y in found for start, z in pairs if start == y} - found
        if not more:
            return tuple(sorted(found))
        found |= more


def all_orders(n):
    """All orders of n things, picked from all lots of pairs."""
    pairs = [(x, y) for x in range(n) for y in range(n) if x != y]
    found = []
    for size in range(len(pairs) + 1):
        for lot in itertools.combinations(pairs, size):
            if closure(lot) == lot:
                found.append((n, lot))
    return found


def some_orders(n, count):
    """Some orders of n things: pairs that lead forward in some sequence of the things."""
    chance = random.Random(n)
    found = [(n, ()), (n, tuple((x, y) for x in range(n) for y in range(x + 1, n))),
             (n, tuple((x, y) for x in range(n) for y in range(x)))]
    for _ in range(count):
        row = chance.sample(range(n), n)
        pairs = [pair for pair in itertools.combinations(row, 2) if chance.random() < chance.choice((0.15, 0.4))]
        found.append((n, closure(pairs)))
    return found


SMALL = [order for n in range(4) for order in all_orders(n)]
ORDERS = SMALL + some_orders(4, 12) + some_orders(5, 12) + some_orders(6, 6) + some_orders(7, 4)


def rows_by_listings(order):
    n, pairs = order
    return tuple(w for w in itertools.permutations(range(n)) if all(w.index(x) < w.index(y) for x, y in pairs))


class Checked(unittest.TestCase):
    def check_not_order(self, rule, function, *arguments):
        with self.assertRaises(CutError) as caught:
            function(*arguments)
        self.assertIs(type(caught.exception), NotOrder, arguments)
        self.assertEqual(caught.exception.rule, rule, arguments)

    def check_too_many(self, function, *arguments):
        with self.assertRaises(CutError) as caught:
            function(*arguments)
        self.assertIs(type(caught.exception), TooMany)
        self.assertEqual(caught.exception.limit, 7)


class CheckOrder(Checked):
    def test_orders(self):
        for order in ORDERS:
            self.assertIs(orders.check_order(order), order)

    def test_all_lots_of_pairs_of_three_things(self):
        pairs = [(x, y) for x in range(3) for y in range(3) if x != y]
        for size in range(7):
            for lot in itertools.combinations(pairs, size):
                if (3, lot) in SMALL:
                    self.assertEqual(orders.check_order((3, lot)), (3, lot))
                else:
                    self.check_not_order("chain", orders.check_order, (3, lot))

    def test_values_that_are_no_tuple_of_two(self):
        for value in [None, 3, "no", [2, ()], (), (2,), (2, (), ()), ((2, ()),), {2: ()}, True, b"ab", (((),),)]:
            self.check_not_order("form", orders.check_order, value)

    def test_wrong_sizes(self):
        for n in [None, "2", True, False, -1, 8, 100, (2,), [2]]:
            self.check_not_order("form", orders.check_order, (n, ()))

    def test_wrong_pairs(self):
        for pairs in [None, 0, "", [], [(0, 1)], {}, ((0, 1), [1, 2]), ((0,),), ((0, 1, 2),), ((),), (0, 1), ("01",),
                      ((-1, 0),), ((0, -1),), ((0, 3),), ((3, 0),), ((0, 7),), ((True, 2),), ((0, True),),
                      ((False, 1),), (("0", 1),), ((0, "1"),), ((0, None),), ((0, (1,)),), ((1, 1),), ((0, 0), (0, 1)),
                      ((0, 2), (0, 1)), ((1, 0), (0, 2)), ((0, 1), (0, 1)), ((0, 1), (0, 2), (0, 2)), (None,)]:
            self.check_not_order("form", orders.check_order, (3, pairs))

    def test_no_thing_has_no_pair(self):
        self.check_not_order("form", orders.check_order, (0, ((0, 0),)))
        self.check_not_order("form", orders.check_order, (0, ((0, 1),)))
        self.check_not_order("form", orders.check_order, (1, ((0, 1),)))

    def test_chains(self):
        for pairs in [((0, 1), (1, 0)), ((0, 1), (1, 2)), ((1, 2), (2, 0)), ((0, 1), (1, 2), (2, 0)),
                      ((0, 1), (0, 2), (1, 0)), ((0, 1), (0, 2), (1, 0), (1, 2), (2, 0), (2, 1))]:
            self.check_not_order("chain", orders.check_order, (3, pairs))
        self.check_not_order("chain", orders.check_order, (7, ((0, 6), (6, 3))))

    def test_the_rule_named_first(self):
        for pairs in [((0, 1), (1, 0), (1, 0)), ((1, 0), (0, 1)), ((0, 1), (1, 2), (1, 2)), ((0, 1), (1, 2), (2, 2)),
                      ((0, 1), (1, 2), (2, True)), ((1, 2), (0, 1))]:
            self.check_not_order("form", orders.check_order, (3, pairs))
        self.check_not_order("form", orders.check_order, (True, ((0, 1), (1, 0))))
        self.check_not_order("form", orders.check_order, (8, ((0, 1), (1, 0))))


class OrderOf(Checked):
    def test_examples(self):
        self.assertEqual(orders.order_of(3, ((1, 2), (0, 1))), (3, ((0, 1), (0, 2), (1, 2))))
        self.assertEqual(orders.order_of(0, ()), (0, ()))
        self.assertEqual(orders.order_of(7, ()), (7, ()))
        self.assertEqual(orders.order_of(3, ((2, 0), (2, 0), (2, 1), (2, 0))), (3, ((2, 0), (2, 1))))

    def test_all_lots_of_pairs(self):
        for n in range(4):
            pairs = [(x, y) for x in range(n) for y in range(n)]
            for size in range(len(pairs) + 1):
                for lot in itertools.combinations(pairs, size):
                    wanted = closure(lot)
                    if any(x == y for x, y in wanted):
                        self.check_not_order("chain", orders.order_of, n, lot)
                    else:
                        self.assertEqual(orders.order_of(n, lot), (n, wanted))

    def test_any_sequence_and_several_times(self):
        chance = random.Random(1)
        for order in ORDERS:
            pairs = list(order[1]) * 2
            chance.shuffle(pairs)
            found = orders.order_of(order[0], tuple(pairs))
            self.assertEqual(found, order)
            self.assertTrue(oracles.is_plain(found))

    def test_long_ways(self):
        wanted = tuple((x, y) for x in range(7) for y in range(x + 1, 7))
        steps = tuple((x, x + 1) for x in range(6))
        self.assertEqual(orders.order_of(7, steps), (7, wanted))
        self.assertEqual(orders.order_of(7, steps[::-1]), (7, wanted))
        for n in range(2, 8):
            self.check_not_order("chain", orders.order_of, n, tuple((x, (x + 1) % n) for x in range(n)))
            self.check_not_order("chain", orders.order_of, n, ((n - 1, n - 1),))
            self.check_not_order("chain", orders.order_of, n, ((0, 1), (1, 0)))
        self.check_not_order("chain", orders.order_of, 1, ((0, 0),))


class Rows(unittest.TestCase):
    def test_examples(self):
        self.assertEqual(orders.rows_of((0, ())), ((),))
        self.assertEqual(orders.rows_of((3, ((2, 0),))), ((1, 2, 0), (2, 0, 1), (2, 1, 0)))
        self.assertEqual(orders.row_count((3, ((2, 0),))), 3)
        self.assertEqual(orders.row_count((0, ())), 1)

    def test_by_all_listings(self):
        for order in ORDERS:
            found = orders.rows_of(order)
            self.assertEqual(found, rows_by_listings(order))
            self.assertEqual(orders.row_count(order), len(found))
            self.assertTrue(oracles.is_plain(found))

    def test_seven_things_end_soon(self):
        start = time.process_time()
        self.assertEqual(len(orders.rows_of((7, ()))), 5040)
        self.assertEqual(orders.row_count((7, ())), 5040)
        self.assertEqual(orders.row_count((7, ((0, 1),))), 2520)
        self.assertLess(time.process_time() - start, SOON)


class LowerLots(unittest.TestCase):
    def test_examples(self):
        self.assertEqual(orders.lower_lots((0, ())), ((),))
        self.assertEqual(orders.lower_lots((3, ((2, 0),))), ((), (0, 1, 2), (0, 2), (1,), (1, 2), (2,)))

    def test_by_all_lots(self):
        for order in ORDERS:
            n, pairs = order
            lots = [lot for size in range(n + 1) for lot in itertools.combinations(range(n), size)]
            wanted = tuple(sorted(lot for lot in lots if all(x in lot for x, y in pairs if y in lot)))
            found = orders.lower_lots(order)
            self.assertEqual(found, wanted)
            self.assertTrue(oracles.is_plain(found))
        self.assertEqual(len(orders.lower_lots((7, ()))), 128)


class PartOrder(unittest.TestCase):
    def test_examples(self):
        order = (4, ((0, 2), (3, 1), (3, 2)))
        self.assertEqual(orders.part_order(order, (1, 3)), (2, ((1, 0),)))
        self.assertEqual(orders.part_order(order, (0, 2, 3)), (3, ((0, 1), (2, 1))))
        self.assertEqual(orders.part_order(order, ()), (0, ()))
        self.assertEqual(orders.part_order(order, (2,)), (1, ()))

    def test_any_lot(self):
        for order in ORDERS:
            for size in range(order[0] + 1):
                for lot in itertools.combinations(range(order[0]), size):
                    wanted = tuple((x, y) for x in range(size) for y in range(size) if (lot[x], lot[y]) in order[1])
                    self.assertEqual(orders.part_order(order, lot), (size, wanted))
            self.assertEqual(orders.part_order(order, tuple(range(order[0]))), order)


class Beside(Checked):
    def test_examples(self):
        self.assertEqual(orders.beside_order((2, ((1, 0),)), (2, ((0, 1),))), (4, ((1, 0), (2, 3))))
        self.assertEqual(orders.below_all((2, ((1, 0),)), (1, ())), (3, ((0, 2), (1, 0), (1, 2))))
        self.assertEqual(orders.below_all((1, ()), (2, ((1, 0),))), (3, ((0, 1), (0, 2), (2, 1))))

    def test_by_the_rules(self):
        for one in ORDERS[::3]:
            for other in ORDERS[::4]:
                n, m = one[0], other[0]
                if n + m > 7:
                    self.check_too_many(orders.beside_order, one, other)
                    self.check_too_many(orders.below_all, one, other)
                    continue
                beside = {(x, y) for x, y in one[1]} | {(n + x, n + y) for x, y in other[1]}
                below = beside | {(x, n + y) for x in range(n) for y in range(m)}
                self.assertEqual(orders.beside_order(one, other), (n + m, tuple(sorted(beside))))
                self.assertEqual(orders.below_all(one, other), (n + m, tuple(sorted(below))))
                self.assertEqual(orders.check_order(orders.beside_order(one, other))[0], n + m)
                self.assertEqual(orders.check_order(orders.below_all(one, other))[0], n + m)

    def test_the_order_of_no_thing(self):
        for order in ORDERS:
            for join in (orders.beside_order, orders.below_all):
                self.assertEqual(join(order, (0, ())), order)
                self.assertEqual(join((0, ()), order), order)

    def test_eight_things_are_too_many_and_seven_are_not(self):
        for join in (orders.beside_order, orders.below_all):
            for n, m in [(1, 7), (7, 1), (4, 4), (2, 6), (7, 7)]:
                self.check_too_many(join, (n, ()), (m, ()))
            for n, m in [(0, 7), (7, 0), (3, 4), (1, 6)]:
                self.assertEqual(join((n, ()), (m, ()))[0], 7)
        self.assertEqual(orders.row_count(orders.below_all((3, ()), (4, ()))), 6 * 24)


class Turned(unittest.TestCase):
    def test_examples(self):
        order = (4, ((0, 2), (3, 1), (3, 2)))
        self.assertEqual(orders.upside_down(order), (4, ((1, 3), (2, 0), (2, 3))))
        self.assertEqual(orders.swapped(order), (4, ((0, 1), (0, 2), (3, 1))))

    def test_by_the_rules(self):
        for order in ORDERS:
            n, pairs = order
            self.assertEqual(orders.upside_down(order), (n, tuple(sorted((y, x) for x, y in pairs))))
            self.assertEqual(orders.swapped(order), (n, tuple(sorted((n - 1 - x, n - 1 - y) for x, y in pairs))))
            for turn in (orders.upside_down, orders.swapped):
                self.assertEqual(orders.check_order(turn(order)), turn(order))
                self.assertEqual(turn(turn(order)), order)


class ByName(unittest.TestCase):
    def test_all_arguments_by_name(self):
        order = (2, ((1, 0),))
        self.assertEqual(orders.check_order(value=order), order)
        self.assertEqual(orders.order_of(pairs=((1, 0),), n=2), order)
        self.assertEqual(orders.rows_of(order=order), ((1, 0),))
        self.assertEqual(orders.row_count(order=order), 1)
        self.assertEqual(orders.lower_lots(order=order), ((), (0, 1), (1,)))
        self.assertEqual(orders.part_order(things=(1,), order=order), (1, ()))
        self.assertEqual(orders.beside_order(other=(1, ()), one=order), (3, ((1, 0),)))
        self.assertEqual(orders.below_all(other=(1, ()), one=order), (3, ((0, 2), (1, 0), (1, 2))))
        self.assertEqual(orders.upside_down(order=order), (2, ((0, 1),)))
        self.assertEqual(orders.swapped(order=order), (2, ((0, 1),)))


if __name__ == "__main__":
    unittest.main()
