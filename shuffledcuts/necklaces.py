"""Plain necklaces and how many there are; rounds of listings; sums told by rounds and by necklaces."""

from shuffledcuts.compositions import runs_of
from shuffledcuts.errors import TooMany
from shuffledcuts.listings import GREATEST_LISTING
from shuffledcuts.lots import listings_of_number, positive
from shuffledcuts.ratios import power
from shuffledcuts.sums import gathered


def plain_necklaces(n, most):
    """Return the least words of all plain necklaces of the length n with integers up to most, ascending."""
    words = []
    word = [0]
    # Each step leads to the next one, ascending, of all such words of lengths up to n.
    while word:
        word[-1] += 1
        if len(word) == n:
            words.append(tuple(word))
        word = [word[at % len(word)] for at in range(n)]
        while word and word[-1] == most:
            word.pop()
    return tuple(words)


def sign_by_primes(d):
    """Return 1 or -1 by whether d is a product of evenly or oddly many unlike primes, 0 if a square divides it."""
    sign = 1
    prime = 2
    while d > 1:
        if d % prime == 0:
            d //= prime
            sign = -sign
            if d % prime == 0:
                return 0
        prime += 1
    return sign


def plain_count(n, most):
    """Return how many plain necklaces of the length n with integers up to most there are."""
    return sum([sign_by_primes(d) * power(most, n // d) for d in range(1, n + 1) if n % d == 0]) // n


def rounds_of(listing):
    """Return the sizes of the rounds of a listing, never rising."""
    sizes = []
    seen = set()
    for start in range(len(listing)):
        at = start
        size = 0
        while at not in seen:
            seen.add(at)
            at = listing[at]
            size += 1
        if size > 0:
            sizes.append(size)
    return tuple(sorted(sizes, reverse=True))


def round_sum(partition):
    """Return the run sum of all listings with these rounds, or raise TooMany."""
    return gathered([(runs_of(row), 1) for row in listings_of_number(partition) if rounds_of(row) == partition])


def added(row, other):
    """Return the sums of the entries of two rows."""
    return tuple([k + j for k, j in zip(row, other)])


def lots_of_necklaces(length, many, most):
    """Return how often each integer up to most stands in each lot of so many plain necklaces of one length."""
    counts = [tuple([word.count(k) for k in range(1, most + 1)]) for word in plain_necklaces(length, most)]
    rows = [((0,) * most, 0)]
    for _ in range(many):
        # A necklace may be repeated, but none ahead of the last one follows, so that each lot is told once.
        rows = [(added(row, counts[at]), at) for row, last in rows for at in range(last, len(counts))]
    return [row for row, _ in rows]


def necklace_sum(partition):
    """Return the plain sum of the lots of plain necklaces with these lengths, by their integers, or raise TooMany."""
    n = sum(partition)
    if n > GREATEST_LISTING:
        raise TooMany(GREATEST_LISTING)
    one = (((0,) * n, 1),)
    for length in sorted(set(partition)):
        lots = gathered([(row, 1) for row in lots_of_necklaces(length, partition.count(length), n)])
        one = gathered([(added(row, lot), k * j) for row, k in one for lot, j in lots])
    # Only integers from 1 on without a gap make a composition.
    return gathered([(positive(row), k) for row, k in one if 0 not in row[:len(positive(row))]])


def exchanged(composition, at):
    """Return the composition with the entry at a place and the one ahead of it exchanged."""
    return composition[:at - 1] + (composition[at], composition[at - 1]) + composition[at + 1:]


def is_even(one):
    """Tell whether a plain sum has the same number at compositions with the same entries in any sequence."""
    numbers = dict(one)
    # Exchanging neighbours leads to any sequence.
    return all([numbers.get(exchanged(composition, at)) == k
                for composition, k in one for at in range(1, len(composition))])
