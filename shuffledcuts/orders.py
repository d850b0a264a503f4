"""Labelled orders: pairs (n, pairs) of things 0, .., n - 1, with (x, y) for x below y."""

from shuffledcuts.errors import NotOrder
from shuffledcuts.pairs import beside_one_another, has_form, part_of
from shuffledcuts.partings import lots_parted


def joined(pairs):
    """Return the pairs (x, z) for which (x, y) and (y, z) are among the pairs, ascending."""
    return sorted({(x, z) for x, y in pairs for start, z in pairs if start == y})


def check_order(value):
    """Return a value that is an order, or raise NotOrder."""
    if not has_form(value):
        raise NotOrder("form")
    # (x, y) beside (y, x) wants (x, x), which no form lets stand among the pairs.
    if not all([pair in value[1] for pair in joined(value[1])]):
        raise NotOrder("chain")
    return value


def order_of(n, pairs):
    """Return the least order of n things with all of the pairs, or raise NotOrder."""
    found = sorted(set(pairs))
    # Each round tells ways of twice as many steps; no way needs more than n steps, nor does one back to its start.
    for _ in range(n):
        found = sorted(set(found + joined(found)))
    if any([x == y for x, y in found]):
        raise NotOrder("chain")
    return (n, tuple(found))


def things_below(order):
    """Return, for each thing, the list of those below it."""
    below = [[] for _ in range(order[0])]
    for x, y in order[1]:
        below[y].append(x)
    return below


def rows_of(order):
    """Return all listings that list x ahead of y whenever x is below y, ascending."""
    below = things_below(order)
    rows = [()]
    for _ in range(order[0]):
        rows = [row + (thing,) for row in rows for thing, lesser in enumerate(below)
                if thing not in row and all([x in row for x in lesser])]
    return tuple(rows)


def row_count(order):
    """Return how many listings list x ahead of y whenever x is below y."""
    below = things_below(order)
    # Listings whose first things are alike but for their sequence go on alike, so they are told together.
    counts = {(): 1}
    for _ in range(order[0]):
        following = {}
        for lot, k in counts.items():
            for thing, lesser in enumerate(below):
                if thing not in lot and all([x in lot for x in lesser]):
                    longer = tuple(sorted(lot + (thing,)))
                    following[longer] = following.get(longer, 0) + k
        counts = following
    return sum(counts.values())


def lower_lots(order):
    """Return all lots of things that have with each thing all that are below it, ascending."""
    lots = sorted([lot for lot, _ in lots_parted(tuple(range(order[0])))])
    return tuple([lot for lot in lots if all([x in lot for x, y in order[1] if y in lot])])


def part_order(order, things):
    """Return the order of some things, ascending, numbered anew in sequence."""
    return part_of(order, things)


def beside_order(one, other):
    """Return the order of both with the things of the other one numbered behind those of the one."""
    return beside_one_another(one, other)


def below_all(one, other):
    """Return both beside one another, and each thing of the one below each thing of the other one."""
    n, pairs = beside_one_another(one, other)
    across_both = [(x, y) for x in range(one[0]) for y in range(one[0], n)]
    return (n, tuple(sorted([*pairs, *across_both])))


def upside_down(order):
    """Return the order with each pair exchanged."""
    return (order[0], tuple(sorted([(y, x) for x, y in order[1]])))


def swapped(order):
    """Return the order with its things numbered from the last one to the first one."""
    last = order[0] - 1
    return (order[0], tuple(sorted([(last - x, last - y) for x, y in order[1]])))
