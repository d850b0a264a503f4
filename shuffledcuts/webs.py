"""Webs: pairs (n, ties) of places 0, .., n - 1, with (x, y), x < y, for each tie; and their colourings."""

from math import comb, factorial

from shuffledcuts.compositions import sign_of
from shuffledcuts.errors import NotWeb
from shuffledcuts.pairs import beside_one_another, has_form, part_of
from shuffledcuts.partings import told_by_lots
from shuffledcuts.ratios import falling_row


def check_web(value):
    """Return a value that is a web, or raise NotWeb."""
    if not has_form(value) or not all([x < y for x, y in value[1]]):
        raise NotWeb("no web")
    return value


def is_tied(ties, lot):
    """Tell whether both ends of a tie are in the lot."""
    return any([x in lot and y in lot for x, y in ties])


def web_sum(web):
    """Return the plain sum of the colourings without a gap, by how many places each number has."""
    n, ties = web
    # The places of each number are any lot without a tie in it.
    return told_by_lots(n, lambda lot, rest: 0 if is_tied(ties, lot) else 1)


def colourings(web, m):
    """Return how many colourings with numbers up to m there are."""
    return sum([k * comb(m, len(composition)) for composition, k in web_sum(web)])


def colour_row(web):
    """Return the numbers of x^0, .., x^n in the polynomial that tells the colourings."""
    n = web[0]
    row = [0] * (n + 1)
    one = web_sum(web)
    for length in range(n + 1):
        # Each parting into lots is told once for each sequence of its lots, so no rest is left.
        partings = sum([k for composition, k in one if len(composition) == length]) // factorial(length)
        for at, number in enumerate(falling_row(0, length)):
            row[at] += partings * number
    return tuple(row)


def beside_web(one, other):
    """Return the web of both with the places of the other one numbered behind those of the one."""
    return beside_one_another(one, other)


def part_web(web, places):
    """Return the web of some places, ascending, numbered anew in sequence."""
    return part_of(web, places)


def one_ways(web):
    """Return how many ways there are to lead each tie one way so that nobody goes round."""
    worth = sum([sign_of(at) * number for at, number in enumerate(colour_row(web))])
    return sign_of(web[0]) * worth
