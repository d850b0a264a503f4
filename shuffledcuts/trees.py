"""Two-armed trees: () or pairs (left, right) of trees; their listings and orders."""

from shuffledcuts.errors import NotTree
from shuffledcuts.fillings import order_sum
from shuffledcuts.orders import rows_of

GREATEST_TREE = 6


def is_tree(value):
    """Tell whether a value is a tree."""
    # Parts are looked at one by one, so that a value may be as deep as it likes, and only as far as it can be a tree.
    pairs = 0
    parts = [value]
    while parts:
        part = parts.pop()
        if not isinstance(part, tuple) or len(part) not in (0, 2):
            return False
        if part:
            pairs += 1
            parts.extend(part)
        if pairs > GREATEST_TREE:
            return False
    return True


def check_tree(value):
    """Return a value that is a tree, or raise NotTree."""
    if not is_tree(value):
        raise NotTree("no tree")
    return value


def size_of(tree):
    """Return how many pairs there are in a tree."""
    return 1 + size_of(tree[0]) + size_of(tree[1]) if tree else 0


def all_trees(n):
    """Return all trees of the size n, ascending."""
    by_size = [[()]]
    for size in range(1, n + 1):
        by_size.append([(left, right) for k in range(size) for left in by_size[k] for right in by_size[size - 1 - k]])
    return tuple(sorted(by_size[n]))


def tree_of(listing):
    """Return the tree of a listing, or of any row of unlike integers with the same sequence of lesser and greater."""
    if not listing:
        return ()
    lesser = [entry for entry in listing if entry < listing[0]]
    greater = [entry for entry in listing if entry > listing[0]]
    return (tree_of(lesser), tree_of(greater))


def tree_lot(tree):
    """Return the sum of all listings that have the tree."""
    return tuple([(listing, 1) for listing in rows_of(tree_order(tree))])


def tree_sum(tree):
    """Return the run sum of all listings that have the tree."""
    return order_sum(tree_order(tree))


def mirror(tree):
    """Return the tree with left and right exchanged throughout."""
    return (mirror(tree[1]), mirror(tree[0])) if tree else ()


def pairs_within(tree, start):
    """Return (x, y), for all pairs x and y of the tree with y within x, numbered from start on."""
    if not tree:
        return []
    left, right = tree
    top = start + size_of(left)
    inner = [y for y in range(start, start + size_of(tree)) if y != top]
    return [(top, y) for y in inner] + pairs_within(left, start) + pairs_within(right, top + 1)


def tree_order(tree):
    """Return the order of the pairs of the tree, x below y if y lies within x."""
    return (size_of(tree), tuple(sorted(pairs_within(tree, 0))))
