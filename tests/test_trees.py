"""Two-armed trees, their listings and orders [28]."""

import collections
import itertools
import math
import time
import unittest

import oracles
from shuffledcuts import trees
from shuffledcuts.errors import CutError, NotTree
from shuffledcuts.orders import check_order, rows_of

LEAF = ()
ONE = (LEAF, LEAF)
COUNTS = [1, 1, 2, 5, 14, 42, 132]
SOON = 20


def put_in(tree, entry):
    """A tree of entries, as rows [left, entry, right], with one more entry put in as its place tells."""
    if tree is None:
        return [None, entry, None]
    side = 0 if entry < tree[1] else 2
    tree[side] = put_in(tree[side], entry)
    return tree


def shape(tree):
    return (shape(tree[0]), shape(tree[2])) if tree else ()


def tree_by_putting_in(listing):
    """The tree that comes if all entries are put in one after another."""
    found = None
    for entry in listing:
        found = put_in(found, entry)
    return shape(found)


LOTS = [{} for _ in range(7)]
for listing in oracles.listings_up_to(6):
    LOTS[len(listing)].setdefault(tree_by_putting_in(listing), []).append(listing)
TREES = [tree for lots in LOTS for tree in lots]


def pairs_in_sequence(tree, way=""):
    """Where the pairs of a tree stand, as words of the sides to which one goes, from left to right."""
    if not tree:
        return []
    return pairs_in_sequence(tree[0], way + "l") + [way] + pairs_in_sequence(tree[1], way + "r")


def order_by_ways(tree):
    ways = pairs_in_sequence(tree)
    return (len(ways), tuple((x, y) for x, y in itertools.product(range(len(ways)), repeat=2)
                             if x != y and ways[y].startswith(ways[x])))


def chain(n, side):
    tree = ()
    for _ in range(n):
        tree = (tree, ()) if side == 0 else ((), tree)
    return tree


class CheckTree(unittest.TestCase):
    def check_not_tree(self, value):
        with self.assertRaises(CutError) as caught:
            trees.check_tree(value)
        self.assertIs(type(caught.exception), NotTree)

    def test_trees(self):
        self.assertEqual([len(lots) for lots in LOTS], COUNTS)
        for tree in TREES:
            self.assertIs(trees.check_tree(tree), tree)

    def test_values_of_other_kinds(self):
        for value in [None, 0, 1, True, False, "", "()", b"", [], {}, set(), frozenset(), [(), ()], [[], []], "ab",
                      range(0), range(2), object(), 1.5, len, {(): (), 1: ()}]:
            self.check_not_tree(value)

    def test_tuples_of_other_lengths(self):
        for value in [((),), ((), (), ()), ((), (), (), ()), (ONE,), (ONE, ONE, ONE), (0,), (1, 2, 3)]:
            self.check_not_tree(value)

    def test_parts_that_are_no_trees(self):
        wrong = [None, 0, False, True, "", "ab", b"ab", [], [(), ()], {}, ((),), ((), (), ()), (((), ()),), 7, (0, 1)]
        for part in wrong:
            for value in [(part, ()), ((), part), (part, part), (ONE, part), (part, ONE), ((ONE, part), ()),
                          ((), (part, ())), ((((((part, ()), ()), ()), ()), ()), ()),
                          ((), ((), ((), ((), ((), ((), part)))))), (((), ((), part)), ONE)]:
                self.check_not_tree(value)

    def test_more_than_six_pairs(self):
        for side in (0, 1):
            self.assertEqual(trees.check_tree(chain(6, side)), chain(6, side))
            for n in (7, 8, 20, 200):
                self.check_not_tree(chain(n, side))
        self.check_not_tree(((ONE, ONE), (ONE, ONE)))
        for tree in LOTS[6]:
            self.check_not_tree((tree, ()))
            self.check_not_tree(((), tree))
        for tree in LOTS[3]:
            self.check_not_tree((tree, chain(3, 1)))

    def test_values_however_deep_end_soon(self):
        start = time.process_time()
        for side in (0, 1):
            self.check_not_tree(chain(100000, side))
        deep = None
        for _ in range(100000):
            deep = (deep,)
        self.check_not_tree(deep)
        self.check_not_tree(((), (deep, ())))
        shared = ()
        for _ in range(1000):
            shared = (shared, shared)
        self.check_not_tree(shared)
        self.check_not_tree((1,) * 100000)
        self.assertLess(time.process_time() - start, SOON)


class AllTrees(unittest.TestCase):
    def test_examples(self):
        self.assertEqual(trees.all_trees(0), ((),))
        self.assertEqual(trees.all_trees(1), (((), ()),))
        self.assertEqual(trees.all_trees(2), (((), ((), ())), (((), ()), ())))

    def test_all_sizes(self):
        for n in range(7):
            found = trees.all_trees(n)
            self.assertEqual(len(found), COUNTS[n])
            self.assertEqual(found, tuple(sorted(LOTS[n])))
            self.assertTrue(oracles.is_plain(found))


class TreeOf(unittest.TestCase):
    def test_examples(self):
        self.assertEqual(trees.tree_of(()), ())
        self.assertEqual(trees.tree_of((0,)), ONE)
        self.assertEqual(trees.tree_of((0, 1)), ((), ONE))
        self.assertEqual(trees.tree_of((1, 0)), (ONE, ()))
        self.assertEqual(trees.tree_of((1, 2, 0)), (ONE, ONE))
        self.assertEqual(trees.tree_of((1, 3, 0, 2)), (ONE, (ONE, ())))

    def test_all_listings(self):
        for lots in LOTS:
            for tree, listings in lots.items():
                for listing in listings:
                    found = trees.tree_of(listing)
                    self.assertEqual(found, tree)
                    self.assertTrue(oracles.is_plain(found))


class Lots(unittest.TestCase):
    def test_examples(self):
        self.assertEqual(trees.tree_lot(()), (((), 1),))
        self.assertEqual(trees.tree_lot((ONE, ONE)), (((1, 0, 2), 1), ((1, 2, 0), 1)))
        self.assertEqual(trees.tree_sum(()), (((), 1),))
        self.assertEqual(trees.tree_sum((ONE, ONE)), (((1, 2), 1), ((2, 1), 1)))

    def test_all_trees(self):
        for lots in LOTS:
            for tree, listings in lots.items():
                found = trees.tree_lot(tree)
                self.assertEqual(found, tuple((listing, 1) for listing in sorted(listings)))
                self.assertTrue(oracles.is_sum(found))

    def test_runs_of_all_trees(self):
        for lots in LOTS:
            for tree, listings in lots.items():
                found = trees.tree_sum(tree)
                self.assertEqual(found, oracles.total((oracles.runs(listing), 1) for listing in listings))
                self.assertTrue(oracles.is_sum(found))


class Mirror(unittest.TestCase):
    def test_examples(self):
        self.assertEqual(trees.mirror(()), ())
        self.assertEqual(trees.mirror((ONE, ())), ((), ONE))
        self.assertEqual(trees.mirror(((ONE, ()), (ONE, ONE))), ((ONE, ONE), ((), ONE)))

    def test_by_listings_turned_upside_down(self):
        for lots in LOTS:
            for tree, listings in lots.items():
                about = tuple(len(listings[0]) - 1 - entry for entry in listings[0])
                self.assertEqual(trees.mirror(tree), tree_by_putting_in(about))
                self.assertEqual(trees.mirror(trees.mirror(tree)), tree)

    def test_as_deep_as_trees_are(self):
        self.assertEqual(trees.mirror(chain(6, 0)), chain(6, 1))


class TreeOrder(unittest.TestCase):
    def test_examples(self):
        self.assertEqual(trees.tree_order(()), (0, ()))
        self.assertEqual(trees.tree_order(ONE), (1, ()))
        self.assertEqual(trees.tree_order((ONE, ())), (2, ((1, 0),)))
        self.assertEqual(trees.tree_order(((), ONE)), (2, ((0, 1),)))
        self.assertEqual(trees.tree_order((ONE, (ONE, ()))), (4, ((1, 0), (1, 2), (1, 3), (3, 2))))

    def test_all_trees(self):
        for tree in TREES:
            found = trees.tree_order(tree)
            self.assertEqual(found, order_by_ways(tree))
            self.assertEqual(check_order(found), found)
            self.assertTrue(oracles.is_plain(found))

    def test_the_rows_are_the_lot(self):
        for tree in TREES:
            self.assertEqual(tuple((row, 1) for row in rows_of(trees.tree_order(tree))), trees.tree_lot(tree))

    def test_as_many_as_the_sizes_tell(self):
        for lots in LOTS:
            for tree, listings in lots.items():
                n, pairs = trees.tree_order(tree)
                within = collections.Counter(x for x, _ in pairs)
                product = math.prod(1 + within[x] for x in range(n))
                self.assertEqual(len(listings), math.factorial(n) // product)
                self.assertEqual(math.factorial(n) % product, 0)


class ByName(unittest.TestCase):
    def test_all_arguments_by_name(self):
        self.assertEqual(trees.check_tree(value=ONE), ONE)
        self.assertEqual(trees.all_trees(n=1), (ONE,))
        self.assertEqual(trees.tree_of(listing=(0,)), ONE)
        self.assertEqual(trees.tree_lot(tree=ONE), (((0,), 1),))
        self.assertEqual(trees.tree_sum(tree=ONE), (((1,), 1),))
        self.assertEqual(trees.mirror(tree=(ONE, ())), ((), ONE))
        self.assertEqual(trees.tree_order(tree=(ONE, ())), (2, ((1, 0),)))


if __name__ == "__main__":
    unittest.main()
