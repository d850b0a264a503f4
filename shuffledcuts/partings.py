"""Things parted into lots: some and the other ones, all partings, sums over all rows of lots."""

from shuffledcuts.sums import gathered


def lots_parted(things):
    """Return the pairs (some of the things, the other ones) for all lots of things, each in their sequence."""
    parted = [((), ())]
    for thing in things:
        parted = ([(lot + (thing,), rest) for lot, rest in parted]
                  + [(lot, rest + (thing,)) for lot, rest in parted])
    return parted


def partings_of(n):
    """Return all ways to part 0, .., n - 1 into lots: ascending tuples of ascending tuples, ascending."""
    partings = [()]
    for thing in range(n):
        # Lots stand in sequence of their least things, so one of the thing alone comes last.
        alone = [lots + ((thing,),) for lots in partings]
        beside = [lots[:at] + (lot + (thing,),) + lots[at + 1:] for lots in partings for at, lot in enumerate(lots)]
        partings = alone + beside
    return sorted(partings)


def sum_of_rows(things, judge, kept):
    """Return the sum over all rows of lots that part some things; kept has that of none and those found so far."""
    if things not in kept:
        terms = []
        for lot, rest in lots_parted(things):
            number = judge(lot, rest) if lot else 0
            if number != 0:
                terms.extend([((len(lot),) + sizes, number * k) for sizes, k in sum_of_rows(rest, judge, kept)])
        kept[things] = gathered(terms)
    return kept[things]


def told_by_lots(n, judge):
    """Return the plain sum of the sizes of the lots of all rows that part 0, .., n - 1 into lots, none empty.

    A row has the product of judge(lot, rest) of all its lots as its number, rest being the things of the lots behind.
    """
    return sum_of_rows(tuple(range(n)), judge, {(): (((), 1),)})
