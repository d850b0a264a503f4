"""Worths of plain sums, for rows of ratios and for rows of ones as many as an integer tells."""

from math import factorial

from shuffledcuts.ratios import power, ratio_plus, ratio_times


def with_entry(shares, entry):
    """Return the shares of what is left of compositions behind one more row entry, which a next entry may take."""
    following = {composition: shares[composition] for composition in shares}
    for composition, share in shares.items():
        if composition:
            rest = composition[1:]
            step = (power(entry[0], composition[0]), power(entry[1], composition[0]))
            following[rest] = ratio_plus(following.get(rest, (0, 1)), ratio_times(share, step))
    return following


def worth(one, row):
    """Return the worth of a plain sum for a row of ratios."""
    # Compositions of which the same is left go on together, so there are never many of them.
    shares = {composition: (k, 1) for composition, k in one}
    for entry in row:
        shares = with_entry(shares, entry)
    return shares.get((), (0, 1))


def ways_to_choose(m, r):
    """Return m (m - 1) .. (m - r + 1) / r!, for any integer m."""
    product = 1
    for step in range(r):
        product *= m - step
    return product // factorial(r)


def worth_at(one, m):
    """Return the worth of a plain sum for m ones, told by its polynomial for any integer m."""
    return sum([k * ways_to_choose(m, len(composition)) for composition, k in one])
