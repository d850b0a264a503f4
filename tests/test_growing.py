"""Trees turned right, products of trees [29], their cuts and turning back [30]."""

import functools
import itertools
import time
import unittest

import oracles
from shuffledcuts import growing
from shuffledcuts.cuts import paired
from shuffledcuts.errors import CutError, TooMany
from shuffledcuts.listings import listing_cuts, shuffled
from shuffledcuts.orders import lower_lots
from shuffledcuts.sums import plus, times
from shuffledcuts.trees import mirror, tree_order
from shuffledcuts.turns import turned_back
from test_trees import LOTS, ONE, TREES, chain, order_by_ways, pairs_in_sequence, tree_by_putting_in

BY_SIZE = [sorted(lots) for lots in LOTS]
UP_TO_COUNTS = [1, 1, 3, 13, 68, 399, 2530]
SOON = 20


def single(thing):
    return oracles.single(thing)


def size(tree):
    return len(pairs_in_sequence(tree))


def turned_once(tree):
    """All trees to which one turning right leads."""
    if not tree:
        return []
    left, right = tree
    found = [(other, right) for other in turned_once(left)] + [(left, other) for other in turned_once(right)]
    if left:
        found.append((left[0], (left[1], right)))
    return found


@functools.lru_cache(maxsize=None)
def all_ahead(tree):
    """All trees to which turnings right lead, none at all too."""
    found = {tree}
    left = [tree]
    while left:
        for other in turned_once(left.pop()):
            if other not in found:
                found.add(other)
                left.append(other)
    return frozenset(found)


def right_sizes(tree):
    ways = pairs_in_sequence(tree)
    return [sum(other.startswith(way + "r") for other in ways) for way in ways]


def lot(tree):
    return tuple((listing, 1) for listing in sorted(LOTS[size(tree)][tree]))


def lots(one):
    return oracles.everywhere(lot, one)


def over(one, other):
    return one if not other else (over(one, other[0]), other[1])


def under(one, other):
    return other if not one else (one[0], under(one[1], other))


def product_pair(s, t):
    first, last = over(s, t), under(s, t)
    return [tree for tree in BY_SIZE[size(s) + size(t)] if tree in all_ahead(first) and last in all_ahead(tree)]


def mirrored(one):
    return oracles.total((mirror(tree), k) for tree, k in one)


def samples(most, count, seed, terms=6):
    things = [tree for n in range(most + 1) for tree in BY_SIZE[n]]
    return [(), single(()), (((), -3),), *oracles.sample_sums(things, count, terms, seed)]


def subtrees_left(tree, kept):
    """The trees, from left to right, of the pairs of a tree that are not kept."""
    ways = pairs_in_sequence(tree)
    roots = [at for at, way in enumerate(ways) if at not in kept and all(
        ways.index(way[:end]) in kept for end in range(len(way)))]
    found = []
    for at in roots:
        part = tree
        for side in ways[at]:
            part = part[0 if side == "l" else 1]
        found.append(part)
    return found


def tree_kept(tree, kept, first=0):
    """The tree that the kept pairs make as they lie in the tree."""
    if not tree:
        return ()
    top = first + size(tree[0])
    if top not in kept:
        return ()
    return (tree_kept(tree[0], kept, first), tree_kept(tree[1], kept, top + 1))


def cuts_by_lower_lots(tree):
    terms = []
    for kept in lower_lots(order_by_ways(tree)):
        rest = single(())
        for part in subtrees_left(tree, kept):
            rest = oracles.product(product_pair, rest, single(part))
        terms.extend(((tree_kept(tree, kept), other), k) for other, k in rest)
    return oracles.total(terms)


class Checked(unittest.TestCase):
    def check_too_many(self, function, *arguments):
        with self.assertRaises(CutError) as caught:
            function(*arguments)
        self.assertIs(type(caught.exception), TooMany)
        self.assertEqual(caught.exception.limit, 6)


class UpTo(unittest.TestCase):
    def test_examples(self):
        self.assertIs(growing.is_up_to((), ()), True)
        self.assertIs(growing.is_up_to((ONE, ()), ((), ONE)), True)
        self.assertIs(growing.is_up_to(((), ONE), (ONE, ())), False)
        self.assertIs(growing.is_up_to((ONE, ONE), (((), ONE), ())), False)
        self.assertIs(growing.is_up_to((((), ONE), ()), (ONE, ONE)), False)

    def test_by_turnings_right(self):
        for n, things in enumerate(BY_SIZE):
            many = 0
            for one in things:
                for other in things:
                    found = growing.is_up_to(one, other)
                    many += found
                    self.assertIs(found, other in all_ahead(one))
            self.assertEqual(many, UP_TO_COUNTS[n])

    def test_by_the_sizes_of_the_right_parts(self):
        for things in BY_SIZE[:6]:
            for one in things:
                for other in things:
                    wanted = all(k <= j for k, j in zip(right_sizes(one), right_sizes(other)))
                    self.assertIs(growing.is_up_to(one, other), wanted)

    def test_unlike_sizes(self):
        for n in range(5):
            for m in range(5):
                if n != m:
                    for one in BY_SIZE[n]:
                        for other in BY_SIZE[m]:
                            self.assertIs(growing.is_up_to(one, other), False)
                            self.assertEqual(growing.trees_between(one, other), ())

    def test_mirrors(self):
        for things in BY_SIZE[:6]:
            for one in things:
                for other in things:
                    self.assertIs(growing.is_up_to(one, other), growing.is_up_to(mirror(other), mirror(one)))


class Between(unittest.TestCase):
    def test_examples(self):
        self.assertEqual(growing.trees_between((), ()), ((),))
        self.assertEqual(growing.trees_between(chain(3, 0), chain(3, 1)), tuple(BY_SIZE[3]))
        self.assertEqual(growing.trees_between(chain(3, 1), chain(3, 0)), ())

    def test_by_turnings_right(self):
        for things in BY_SIZE[:6] + [BY_SIZE[6][::9]]:
            for one in things:
                for other in things:
                    found = growing.trees_between(one, other)
                    everything = BY_SIZE[size(one)]
                    self.assertEqual(found, tuple(tree for tree in everything
                                                  if tree in all_ahead(one) and other in all_ahead(tree)))
                    self.assertTrue(oracles.is_plain(found))

    def test_all_of_six(self):
        self.assertEqual(growing.trees_between(chain(6, 0), chain(6, 1)), tuple(BY_SIZE[6]))


class OverAndUnder(Checked):
    def test_examples(self):
        self.assertEqual(growing.over(ONE, ONE), (ONE, ()))
        self.assertEqual(growing.under(ONE, ONE), ((), ONE))
        self.assertEqual(growing.over((ONE, ()), (ONE, ONE)), (((ONE, ()), ()), ONE))
        self.assertEqual(growing.under((ONE, ()), (ONE, ONE)), (ONE, (ONE, ONE)))

    def test_by_listings(self):
        for one in TREES:
            for other in TREES:
                n, m = size(one), size(other)
                if n + m <= 6:
                    u = LOTS[n][one][0]
                    v = tuple(n + entry for entry in LOTS[m][other][0])
                    self.assertEqual(growing.over(one, other), tree_by_putting_in(v + u))
                    self.assertEqual(growing.under(one, other), tree_by_putting_in(u + v))

    def test_nothing_put_anywhere(self):
        for tree in TREES:
            for put in (growing.over, growing.under):
                self.assertEqual(put((), tree), tree)
                self.assertEqual(put(tree, ()), tree)

    def test_six_pairs_are_let_and_seven_are_too_many(self):
        for put in (growing.over, growing.under):
            for n in range(7):
                for side, other in itertools.product((0, 1), repeat=2):
                    self.assertEqual(size(put(chain(n, side), chain(6 - n, other))), 6)
                    if n > 0:
                        self.check_too_many(put, chain(n, side), chain(7 - n, other))
            self.check_too_many(put, chain(6, 0), chain(6, 1))


class Product(Checked):
    def test_examples(self):
        self.assertEqual(growing.tree_product(single(ONE), single(ONE)), ((((), ONE), 1), ((ONE, ()), 1)))
        self.assertEqual(growing.tree_product((((), 2), (ONE, 3)), ((ONE, -1),)),
                         ((ONE, -2), (((), ONE), -3), ((ONE, ()), -3)))

    def test_by_all_trees_between(self):
        for one in TREES:
            for other in TREES:
                if size(one) + size(other) <= 6:
                    found = growing.tree_product(single(one), single(other))
                    self.assertEqual(found, tuple((tree, 1) for tree in product_pair(one, other)))
                    self.assertEqual(found, tuple((tree, 1) for tree in growing.trees_between(
                        growing.over(one, other), growing.under(one, other))))

    def test_by_shuffles_of_the_lots(self):
        for one in TREES:
            for other in TREES:
                if size(one) + size(other) <= 5 or (size(one), size(other)) in [(3, 3), (1, 5)]:
                    self.assertEqual(lots(growing.tree_product(single(one), single(other))),
                                     shuffled(lot(one), lot(other)))

    def test_sums(self):
        rows = samples(3, 10, "products")
        for one in rows:
            for other in rows:
                found = growing.tree_product(one, other)
                self.assertEqual(found, oracles.product(product_pair, one, other))
                self.assertTrue(oracles.is_sum(found))

    def test_terms_that_take_one_another_away(self):
        left = growing.tree_product(single(ONE), single(ONE))
        self.assertEqual(growing.tree_product(plus(left, times(-1, single((ONE, ())))), single(())), single(((), ONE)))
        self.assertEqual(growing.tree_product((((), 1), (ONE, 1)), (((), 1), (ONE, -1))),
                         (((), 1), (((), ONE), -1), ((ONE, ()), -1)))

    def test_nothing(self):
        for one in samples(3, 4, "nothing") + [single(tree) for tree in BY_SIZE[6][:3]]:
            self.assertEqual(growing.tree_product(one, ()), ())
            self.assertEqual(growing.tree_product((), one), ())
            self.assertEqual(growing.tree_product(one, single(())), one)
            self.assertEqual(growing.tree_product(single(()), one), one)

    def test_more_than_six(self):
        four, three = chain(4, 1), chain(3, 0)
        self.check_too_many(growing.tree_product, single(four), single(three))
        self.check_too_many(growing.tree_product, single(three), single(four))
        self.check_too_many(growing.tree_product, single(chain(6, 0)), single(ONE))
        self.check_too_many(growing.tree_product, single(ONE), single(chain(6, 1)))

    def test_more_than_six_anywhere(self):
        deep = [chain(5, 0), chain(5, 1), BY_SIZE[5][20]]
        for tree in deep:
            great = oracles.total([((), 1), (tree, -1), (ONE, 2), (((ONE, ONE), ONE), 1)])
            for other in [single((ONE, ())), (((), 5), (((), ONE), -1)), (((), 1), (ONE, 1), ((ONE, ()), 1))]:
                self.check_too_many(growing.tree_product, great, other)
                self.check_too_many(growing.tree_product, other, great)
            self.assertEqual(growing.tree_product(great, (((), 1), (ONE, 1))),
                             oracles.product(product_pair, great, (((), 1), (ONE, 1))))

    def test_mirrors(self):
        rows = samples(3, 8, "mirrors")
        for one in rows:
            for other in rows:
                self.assertEqual(mirrored(growing.tree_product(one, other)),
                                 growing.tree_product(mirrored(other), mirrored(one)))

    def test_any_grouping(self):
        rows = samples(2, 5, "groups", 4)
        for one, other, third in itertools.product(rows, repeat=3):
            self.assertEqual(growing.tree_product(growing.tree_product(one, other), third),
                             growing.tree_product(one, growing.tree_product(other, third)))


def pair_lots(pairs):
    return oracles.everywhere(lambda pair: paired(lot(pair[0]), lot(pair[1])), pairs)


class Cuts(unittest.TestCase):
    def test_examples(self):
        self.assertEqual(growing.tree_cuts(()), ())
        self.assertEqual(growing.tree_cuts((((), -4),)), ((((), ()), -4),))
        self.assertEqual(growing.tree_cuts(single(ONE)), ((((), ONE), 1), ((ONE, ()), 1)))
        self.assertEqual(growing.tree_cuts(single((ONE, ONE))),
                         ((((), (ONE, ONE)), 1), ((ONE, ((), ONE)), 1), ((ONE, (ONE, ())), 1),
                          ((((), ONE), ONE), 1), (((ONE, ()), ONE), 1), (((ONE, ONE), ()), 1)))

    def test_by_the_cuts_of_the_lots(self):
        for tree in TREES:
            found = growing.tree_cuts(single(tree))
            self.assertEqual(pair_lots(found), listing_cuts(lot(tree)))
            self.assertTrue(oracles.is_sum(found))

    def test_by_lower_lots(self):
        for tree in TREES:
            self.assertEqual(tree_order(tree), order_by_ways(tree))
            self.assertEqual(growing.tree_cuts(single(tree)), cuts_by_lower_lots(tree))

    def test_sums(self):
        for one in samples(6, 10, "cuts", 12):
            found = growing.tree_cuts(one)
            self.assertEqual(found, oracles.everywhere(cuts_by_lower_lots, one))
            self.assertEqual(pair_lots(found), listing_cuts(lots(one)))
            self.assertTrue(oracles.is_sum(found))


class TurnedBack(unittest.TestCase):
    def test_examples(self):
        self.assertEqual(growing.tree_turned_back(()), ())
        self.assertEqual(growing.tree_turned_back((((), 7),)), (((), 7),))
        self.assertEqual(growing.tree_turned_back(single(ONE)), times(-1, single(ONE)))
        self.assertEqual(growing.tree_turned_back(single((ONE, ()))), single(((), ONE)))
        self.assertEqual(growing.tree_turned_back(single(((), ONE))), single((ONE, ())))

    def test_by_turning_back_the_lots(self):
        for things in BY_SIZE[:6]:
            for tree in things:
                found = growing.tree_turned_back(single(tree))
                self.assertEqual(lots(found), turned_back(lot(tree), "listings"))
                self.assertTrue(oracles.is_sum(found))

    def test_by_the_cuts(self):
        for tree in TREES:
            pairs = growing.tree_cuts(single(tree))
            wanted = single(()) if tree == () else ()
            left = oracles.everywhere(
                lambda pair: growing.tree_product(growing.tree_turned_back(single(pair[0])), single(pair[1])), pairs)
            right = oracles.everywhere(
                lambda pair: growing.tree_product(single(pair[0]), growing.tree_turned_back(single(pair[1]))), pairs)
            self.assertEqual((left, right), (wanted, wanted))

    def test_sums(self):
        for one in samples(6, 10, "turned", 12):
            found = growing.tree_turned_back(one)
            self.assertEqual(found, oracles.everywhere(lambda tree: growing.tree_turned_back(single(tree)), one))
            self.assertTrue(oracles.is_sum(found))

    def test_mirrored_and_turned_back_twice(self):
        for one in samples(6, 10, "twice", 12) + [single(tree) for tree in TREES]:
            once = growing.tree_turned_back(mirrored(one))
            self.assertEqual(growing.tree_turned_back(mirrored(once)), one)


class Lots(unittest.TestCase):
    def test_examples(self):
        self.assertEqual(growing.lots_of_trees(()), ())
        self.assertEqual(growing.lots_of_trees((((), 3), ((ONE, ONE), -2))),
                         (((), 3), ((1, 0, 2), -2), ((1, 2, 0), -2)))
        self.assertEqual(growing.trees_of_lots(()), ())
        self.assertEqual(growing.trees_of_lots((((), 3), ((1, 0, 2), -2), ((1, 2, 0), -2))),
                         (((), 3), ((ONE, ONE), -2)))

    def test_lots(self):
        for one in samples(6, 12, "lots", 20):
            found = growing.lots_of_trees(one)
            self.assertEqual(found, lots(one))
            self.assertTrue(oracles.is_sum(found))

    def test_trees_come_back(self):
        for one in samples(6, 12, "back", 20) + [single(tree) for tree in TREES]:
            found = growing.trees_of_lots(lots(one))
            self.assertEqual(found, one)
            self.assertTrue(oracles.is_sum(found))

    def test_a_listing_that_lacks(self):
        for tree in TREES:
            one = lot(tree)
            if len(one) > 1:
                for at in (0, len(one) // 2, len(one) - 1):
                    self.assertIs(growing.trees_of_lots(one[:at] + one[at + 1:]), None)

    def test_a_listing_with_another_number(self):
        for tree in TREES:
            one = lot(tree)
            if len(one) > 1:
                for at in (0, len(one) // 2, len(one) - 1):
                    for k in (-1, 2, 10 ** 20):
                        self.assertIs(growing.trees_of_lots(one[:at] + ((one[at][0], k),) + one[at + 1:]), None)

    def test_listings_of_several_numbers(self):
        one = (((), 2), (ONE, -1), ((ONE, ONE), 10 ** 25), ((ONE, (ONE, ())), -3))
        one = oracles.total([*one, *((tree, 5) for tree in BY_SIZE[6][::10])])
        self.assertEqual(growing.trees_of_lots(lots(one)), one)
        for listing in [(1, 0, 2), (1, 0, 3, 2), (2, 0, 1, 3)]:
            for k in (1, -(10 ** 25)):
                self.assertIs(growing.trees_of_lots(plus(lots(one), ((listing, k),))), None)
        self.assertIs(growing.trees_of_lots((((), 1), ((0,), 1), ((1, 0, 2), 1), ((2, 0, 1), 1))), None)
        self.assertEqual(growing.trees_of_lots((((), 1), ((0,), -1), ((2, 0, 1), 5))),
                         (((), 1), (ONE, -1), ((((), ONE), ()), 5)))
        self.assertIs(growing.trees_of_lots((((0,), -1), ((1, 0, 2), 5), ((1, 2, 0), 4))), None)


class Times(unittest.TestCase):
    def test_six_pairs_end_soon(self):
        start = time.process_time()
        one = tuple((tree, at + 1) for at, tree in enumerate(BY_SIZE[6]))
        growing.tree_cuts(one)
        growing.tree_turned_back(one)
        self.assertEqual(growing.trees_of_lots(growing.lots_of_trees(one)), one)
        for tree in BY_SIZE[6]:
            growing.tree_cuts(single(tree))
            growing.tree_turned_back(single(tree))
        growing.tree_product(tuple((tree, 1) for tree in BY_SIZE[3]), tuple((tree, 1) for tree in BY_SIZE[3]))
        self.assertLess(time.process_time() - start, SOON)


class ByName(unittest.TestCase):
    def test_all_arguments_by_name(self):
        low, high = (ONE, ()), ((), ONE)
        self.assertIs(growing.is_up_to(other=high, one=low), True)
        self.assertEqual(growing.trees_between(other=high, one=low), (high, low))
        self.assertEqual(growing.over(other=(ONE, ONE), one=ONE), ((ONE, ()), ONE))
        self.assertEqual(growing.under(other=ONE, one=low), (ONE, ONE))
        self.assertEqual(growing.tree_product(other=single(()), one=single(low)), single(low))
        self.assertEqual(growing.tree_cuts(one=single(())), single(((), ())))
        self.assertEqual(growing.tree_turned_back(one=single(low)), single(high))
        self.assertEqual(growing.lots_of_trees(one=single(low)), single((1, 0)))
        self.assertEqual(growing.trees_of_lots(one=single((1, 0))), single(low))


if __name__ == "__main__":
    unittest.main()
