"""Compositions: their places, finer and coarser ones, turning about, runs of listings."""

from math import factorial

from shuffledcuts.errors import NotComposition

GREATEST_NUMBER = 10


def is_whole(value):
    """Tell whether a value is an integer; True and False are none."""
    return isinstance(value, int) and not isinstance(value, bool)


def sign_of(k):
    """Return 1 for an even and -1 for an odd integer."""
    return 1 if k % 2 == 0 else -1


def composition_breach(value):
    """Return None for a composition and else the place that NotComposition tells."""
    if not isinstance(value, tuple):
        return -1
    for at, entry in enumerate(value):
        if not is_whole(entry) or entry < 1:
            return at
    # A second loop, because a wrong entry is told even behind a place where the sum is too great.
    total = 0
    for at, entry in enumerate(value):
        total += entry
        if total > GREATEST_NUMBER:
            return at
    return None


def check_composition(value):
    """Return a value that is a composition, or raise NotComposition."""
    place = composition_breach(value)
    if place is not None:
        raise NotComposition(place)
    return value


def all_compositions(n):
    """Return all compositions of n, ascending."""
    if n == 0:
        return ((),)
    return tuple([(first,) + rest for first in range(1, n + 1) for rest in all_compositions(n - first)])


def places_of(composition):
    """Return the places of a composition, ascending."""
    places = []
    total = 0
    for entry in composition[:-1]:
        total += entry
        places.append(total)
    return tuple(places)


def of_places(n, places):
    """Return the composition of n that has the places."""
    if n == 0:
        return ()
    ends = (*places, n)
    starts = (0, *places)
    return tuple([end - start for start, end in zip(starts, ends)])


def is_finer(one, other):
    """Tell whether the one composition is finer than the other one."""
    if sum(one) != sum(other):
        return False
    places = places_of(one)
    return all([place in places for place in places_of(other)])


def finer_ones(composition):
    """Return all finer compositions, ascending."""
    # No composition of an entry begins another one of it, so this sequence is ascending as it is.
    rows = [()]
    for entry in composition:
        parts = all_compositions(entry)
        rows = [row + part for row in rows for part in parts]
    return tuple(rows)


def coarser_ones(composition):
    """Return all coarser compositions, ascending."""
    rows = [composition[:1]]
    for entry in composition[1:]:
        apart = [row + (entry,) for row in rows]
        made_one = [row[:-1] + (row[-1] + entry,) for row in rows]
        rows = apart + made_one
    return tuple(sorted(rows))


def turned(composition):
    """Return the composition with the entries from the last one to the first one."""
    return composition[::-1]


def other_side(composition):
    """Return the composition whose places are those that the composition has not."""
    n = sum(composition)
    places = places_of(composition)
    return of_places(n, tuple([place for place in range(1, n) if place not in places]))


def across(composition):
    """Return the other side, turned."""
    return turned(other_side(composition))


def runs_of(listing):
    """Return the composition of the numbers of entries of the runs."""
    runs = []
    for at, entry in enumerate(listing):
        if at == 0 or entry < listing[at - 1]:
            runs.append(1)
        else:
            runs[-1] += 1
    return tuple(runs)


def ways_to_part(composition):
    """Return how many ways there are to part as many things as its number into lots of its sizes, in sequence."""
    ways = factorial(sum(composition))
    for entry in composition:
        ways //= factorial(entry)
    return ways


def count_by_runs(composition):
    """Return how many listings have these runs."""
    length = len(composition)
    return sum([sign_of(length - len(row)) * ways_to_part(row) for row in coarser_ones(composition)])
