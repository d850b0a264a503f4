"""Rows of pairs of numbered things, as orders and webs have them."""

from shuffledcuts.compositions import is_whole
from shuffledcuts.errors import TooMany

MOST_THINGS = 7


def is_size(value):
    """Tell whether a value is how many things an order or a web can have."""
    return is_whole(value) and 0 <= value <= MOST_THINGS


def is_thing(value, n):
    """Tell whether a value is one of the integers from 0 to n - 1."""
    return is_whole(value) and 0 <= value < n


def is_pair_of_things(value, n):
    """Tell whether a value is a pair of unlike integers from 0 to n - 1."""
    if not isinstance(value, tuple) or len(value) != 2:
        return False
    return is_thing(value[0], n) and is_thing(value[1], n) and value[0] != value[1]


def is_ascending(row):
    """Tell whether each item of a row is greater than the one ahead of it."""
    return all([row[at - 1] < row[at] for at in range(1, len(row))])


def has_form(value):
    """Tell whether a value is (n, pairs), the pairs an ascending tuple of pairs of unlike integers from 0 to n - 1."""
    if not isinstance(value, tuple) or len(value) != 2:
        return False
    n, pairs = value
    if not is_size(n) or not isinstance(pairs, tuple):
        return False
    return all([is_pair_of_things(pair, n) for pair in pairs]) and is_ascending(pairs)


def beside_one_another(one, other):
    """Return both with the things of the other one numbered behind those of the one, or raise TooMany."""
    n = one[0] + other[0]
    if n > MOST_THINGS:
        raise TooMany(MOST_THINGS)
    return (n, one[1] + tuple([(one[0] + x, one[0] + y) for x, y in other[1]]))


def part_of(whole, things):
    """Return the pairs within some things, ascending, with these numbered anew in sequence."""
    pairs = [(things.index(x), things.index(y)) for x, y in whole[1] if x in things and y in things]
    return (len(things), tuple(pairs))
