"""Sums over things: tuples of pairs (thing, number other than 0), the things ascending."""

from shuffledcuts.compositions import composition_breach, is_whole
from shuffledcuts.errors import NotSum


def is_row_of_pairs(value):
    """Tell whether a value is a tuple of tuples of two."""
    return isinstance(value, tuple) and all([isinstance(pair, tuple) and len(pair) == 2 for pair in value])


def wrong_things(pairs):
    """Return the places of the pairs whose first entry is no composition."""
    return [at for at, pair in enumerate(pairs) if composition_breach(pair[0]) is not None]


def wrong_numbers(pairs):
    """Return the places of the pairs whose second entry is not an integer other than 0."""
    return [at for at, pair in enumerate(pairs) if not is_whole(pair[1]) or pair[1] == 0]


def wrong_steps(pairs):
    """Return the places of the pairs whose thing is not greater than the one ahead."""
    return [at for at in range(1, len(pairs)) if not pairs[at - 1][0] < pairs[at][0]]


def sum_breach(value):
    """Return None for a sum over compositions, and else the first broken rule and its first place."""
    if not is_row_of_pairs(value):
        return ("form", -1)
    places = wrong_things(value)
    if places:
        return ("thing", places[0])
    places = wrong_numbers(value)
    if places:
        return ("number", places[0])
    # Only here are all things compositions, which can be compared.
    places = wrong_steps(value)
    if places:
        return ("sequence", places[0])
    return None


def check_sum(value):
    """Return a value that is a sum over compositions, or raise NotSum."""
    breach = sum_breach(value)
    if breach is not None:
        raise NotSum(breach[0], breach[1])
    return value


def side_by_side(one, other):
    """Return (thing, its number in one, its number in other) for all things of both sums, ascending."""
    # Merged by comparing, without a dict: things of any sort may be nested too deep for a key.
    rows = []
    at = beside = 0
    while at < len(one) and beside < len(other):
        thing, k = one[at]
        facing, j = other[beside]
        if thing < facing:
            rows.append((thing, k, 0))
            at += 1
        elif facing < thing:
            rows.append((facing, 0, j))
            beside += 1
        else:
            rows.append((thing, k, j))
            at += 1
            beside += 1
    rows.extend([(thing, k, 0) for thing, k in one[at:]])
    rows.extend([(thing, 0, j) for thing, j in other[beside:]])
    return rows


def plus(one, other):
    """Return the sum of both sums."""
    return tuple([(thing, k + j) for thing, k, j in side_by_side(one, other) if k + j != 0])


def times(k, one):
    """Return k times the sum."""
    if k == 0:
        return ()
    return tuple([(thing, k * j) for thing, j in one])


def pairing(one, other):
    """Return the sum, over all things, of the products of both numbers."""
    return sum([k * j for _, k, j in side_by_side(one, other)])


def degree_part(one, n):
    """Return the sum of the terms whose compositions have the number n."""
    return tuple([pair for pair in one if sum(pair[0]) == n])


def degrees(one):
    """Return the numbers of the compositions of the sum, ascending."""
    return tuple(sorted({sum(pair[0]) for pair in one}))


def sum_of_counts(counts):
    """Return the sum in which each key of the dict has its value as number."""
    return tuple([(thing, counts[thing]) for thing in sorted(counts) if counts[thing] != 0])


def gathered(terms):
    """Return the sum of the terms (thing, k), which may stand in any sequence and several times."""
    counts = {}
    for thing, k in terms:
        counts[thing] = counts.get(thing, 0) + k
    return sum_of_counts(counts)


def merged(terms):
    """Return the sum of the terms, as gathered does, by comparing alone: for things nested too deep for a key."""
    rows = []
    for thing, k in sorted(terms):
        if rows and rows[-1][0] == thing:
            rows[-1] = (thing, rows[-1][1] + k)
        else:
            rows.append((thing, k))
    return tuple([(thing, k) for thing, k in rows if k != 0])


def replaced(one, things_of):
    """Return the sum in which each thing is replaced by all of things_of(thing)."""
    counts = {}
    for thing, k in one:
        for row in things_of(thing):
            counts[row] = counts.get(row, 0) + k
    return sum_of_counts(counts)


def everywhere(one, lead):
    """Return the sum in which each thing is replaced by the sum, or row of terms, lead(thing)."""
    return gathered([(row, k * j) for thing, k in one for row, j in lead(thing)])


def multiplied(one, other, things_of):
    """Return the product, additive in both, that leads two things a, b to all of things_of(a, b)."""
    counts = {}
    for a, k in one:
        for b, j in other:
            for row in things_of(a, b):
                counts[row] = counts.get(row, 0) + k * j
    return sum_of_counts(counts)
