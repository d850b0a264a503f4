"""Trees turned right, put upon one another, multiplied, cut and turned back; sums over trees told by listings."""

from shuffledcuts.errors import TooMany
from shuffledcuts.sums import merged, replaced, times
from shuffledcuts.trees import GREATEST_TREE, all_trees, size_of, tree_lot, tree_of


def right_sizes(tree):
    """Return the sizes of the right parts of all pairs, each between those of its left and of its right part."""
    if not tree:
        return ()
    left, right = tree
    return (*right_sizes(left), size_of(right), *right_sizes(right))


def is_up_to(one, other):
    """Tell whether turnings right lead from the one tree to the other one."""
    sizes = right_sizes(one)
    others = right_sizes(other)
    return len(sizes) == len(others) and all([k <= j for k, j in zip(sizes, others)])


def trees_between(one, other):
    """Return all trees that the one is up to and that are up to the other one, ascending."""
    return tuple([tree for tree in all_trees(size_of(one)) if is_up_to(one, tree) and is_up_to(tree, other)])


def check_sizes(size, other):
    """Raise TooMany if trees of two sizes make too great a tree."""
    if size + other > GREATEST_TREE:
        raise TooMany(GREATEST_TREE)


def over_all(one, other):
    """Return the other tree with the one in the place of its leftmost ()."""
    return (over_all(one, other[0]), other[1]) if other else one


def under_all(one, other):
    """Return the one tree with the other one in the place of its rightmost ()."""
    return (one[0], under_all(one[1], other)) if one else other


def over(one, other):
    """Return the other tree with the one in the place of its leftmost (), or raise TooMany."""
    check_sizes(size_of(one), size_of(other))
    return over_all(one, other)


def under(one, other):
    """Return the one tree with the other one in the place of its rightmost (), or raise TooMany."""
    check_sizes(size_of(one), size_of(other))
    return under_all(one, other)


def grown(s, t):
    """Return all trees from s over t to s under t."""
    if not s or not t:
        return [s or t]
    # A listing of a shuffle begins with the first entry of one of both, and the pair of that one is the outmost.
    return [(s[0], right) for right in grown(s[1], t)] + [(left, t[1]) for left in grown(s, t[0])]


def grown_sums(one, other):
    """Return the product of sums over trees of any sizes."""
    return merged([(tree, k * j) for s, k in one for t, j in other for tree in grown(s, t)])


def tree_product(one, other):
    """Return the product of sums over trees, or raise TooMany."""
    if one and other:
        check_sizes(max([size_of(tree) for tree, _ in one]), max([size_of(tree) for tree, _ in other]))
    return grown_sums(one, other)


def parts_of(tree):
    """Return the pairs of what a lower lot of the pairs makes and the row of trees left, for all lower lots."""
    if not tree:
        return [((), ())]
    parts = [((), (tree,))]
    for left, lefts in parts_of(tree[0]):
        parts.extend([((left, right), lefts + rights) for right, rights in parts_of(tree[1])])
    return parts


def product_of_row(trees):
    """Return the product of the trees of a row, from left to right."""
    product = (((), 1),)
    for tree in trees:
        product = grown_sums(product, ((tree, 1),))
    return product


def tree_cuts(one):
    """Return the cut sum of a sum over trees."""
    return merged([((top, rest), k * j) for tree, k in one for top, row in parts_of(tree)
                   for rest, j in product_of_row(row)])


def turned_tree(tree, kept):
    """Return the sum to which turning back leads a tree; kept has that of () and those found so far."""
    # By the sizes of the right parts, which tell the tree, because trees may be nested too deep for a key.
    key = right_sizes(tree)
    if key not in kept:
        terms = []
        for top, row in parts_of(tree):
            # The one cut with nothing left has the tree itself, which the other ones add up to nothing with.
            if row:
                terms.extend(times(-1, grown_sums(turned_tree(top, kept), product_of_row(row))))
        kept[key] = merged(terms)
    return kept[key]


def tree_turned_back(one):
    """Return the sum over trees to which turning back leads a sum over trees."""
    kept = {(): (((), 1),)}
    return merged([(row, k * j) for tree, k in one for row, j in turned_tree(tree, kept)])


def listings_of_tree(tree):
    """Return all listings that have the tree."""
    return [listing for listing, _ in tree_lot(tree)]


def lots_of_trees(one):
    """Return the sum over listings in which each tree is replaced by its lot."""
    return replaced(one, listings_of_tree)


def trees_of_lots(one):
    """Return the sum over trees from which a sum over listings comes, and None if there is none."""
    # All listings of a tree have one number then, so that of any of them will do to try.
    numbers = {}
    for listing, k in one:
        tree = tree_of(listing)
        numbers[right_sizes(tree)] = (tree, k)
    found = merged(list(numbers.values()))
    return found if lots_of_trees(found) == one else None
