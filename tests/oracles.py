"""What the tests compare the program with: each thing counted straight from its definition, without the program."""

import functools
import itertools
import math
import random


@functools.lru_cache(maxsize=None)
def compositions(n):
    """All compositions of n, by the lots of places that they may have."""
    found = []
    for size in range(max(n, 1)):
        for places in itertools.combinations(range(1, n), size):
            found.append(from_places(n, places))
    return sorted(found)


def from_places(n, places):
    ends = [0, *places, n]
    return tuple(high - low for low, high in zip(ends, ends[1:])) if n else ()


def places(composition):
    return set(itertools.accumulate(composition)) - {sum(composition)}


def compositions_up_to(n):
    return [c for m in range(n + 1) for c in compositions(m)]


def listings(n):
    return list(itertools.permutations(range(n)))


def listings_up_to(n):
    return [w for m in range(n + 1) for w in listings(m)]


def runs(listing):
    falls = [at for at in range(1, len(listing)) if listing[at] < listing[at - 1]]
    return from_places(len(listing), falls)


def total(terms):
    """The sum of terms that stand in any sequence."""
    numbers = {}
    for thing, k in terms:
        numbers[thing] = numbers.get(thing, 0) + k
    return tuple(sorted((thing, k) for thing, k in numbers.items() if k))


def single(thing):
    return ((thing, 1),)


@functools.lru_cache(maxsize=None)
def shuffle_pair(u, v):
    """All listings that have u and, raised by its length, v in sequence: picked from all listings."""
    n, m = len(u), len(v)
    raised = tuple(n + entry for entry in v)
    return [w for w in listings(n + m)
            if tuple(x for x in w if x < n) == u and tuple(x for x in w if x >= n) == raised]


@functools.lru_cache(maxsize=None)
def overlay_pair(a, b):
    """The compositions of all rows of pairs, the rows picked from all rows of their lengths."""
    found = []
    for length in range(max(len(a), len(b)), len(a) + len(b) + 1):
        for row in itertools.product(((0, 1), (1, 0), (1, 1)), repeat=length):
            if sum(i for i, _ in row) == len(a) and sum(j for _, j in row) == len(b):
                nexts = (iter(a), iter(b))
                found.append(tuple(i * (next(nexts[0]) if i else 0) + j * (next(nexts[1]) if j else 0)
                                   for i, j in row))
    return found


def product(pair_rule, one, other):
    """The product, additive in both, by a rule for two single things."""
    return total((thing, k * j) for a, k in one for b, j in other for thing in pair_rule(a, b))


def choose(n, k):
    return math.comb(n, k)


def sample_sums(things, count, most, seed):
    """Some sums of several terms, with numbers of either sign and great ones; the same at each run."""
    chance = random.Random(seed)
    found = []
    for _ in range(count):
        picked = chance.sample(things, chance.randint(1, min(most, len(things))))
        numbers = [1, -1, 2, -3, 7, 10 ** 20, -(10 ** 30)]
        found.append(total((thing, chance.choice(numbers)) for thing in picked))
    return found


def is_plain(value):
    """Whether a value is an integer, a string, True, False, None, or a tuple of such, and nothing derived from it."""
    if type(value) is tuple:
        return all(is_plain(part) for part in value)
    return type(value) in (int, str, bool, type(None))


def is_sum(value):
    """Whether a value is a tuple of pairs with ascending things and numbers other than 0."""
    things = [thing for thing, _ in value]
    return (is_plain(value) and all(type(k) is int and k for _, k in value)
            and all(low < high for low, high in zip(things, things[1:])))


def behind_pair(a, b):
    return [a + b]


def ribbon_pair(a, b):
    return [a + b, (*a[:-1], a[-1] + b[0], *b[1:])] if a and b else [a + b]


@functools.lru_cache(maxsize=None)
def run_pair(a, b):
    """The runs of all shuffles of the least listing with the runs a and the greatest one with the runs b."""
    u = next(w for w in listings(sum(a)) if runs(w) == a)
    v = next(w for w in reversed(listings(sum(b))) if runs(w) == b)
    return [runs(w) for w in shuffle_pair(u, v)]


PRODUCTS = {"plain": overlay_pair, "runs": run_pair, "wholes": behind_pair, "ribbons": ribbon_pair,
            "listings": shuffle_pair}
SORTS = tuple(PRODUCTS)


def leveled(row):
    """The listing with the same sequence of lesser and greater as a row."""
    return tuple(sum(other < entry for other in row) for entry in row)


def plain_cut(c):
    return [(c[:at], c[at:]) for at in range(len(c) + 1)]


@functools.lru_cache(maxsize=None)
def run_cut(c):
    """The pairs picked from all pairs of compositions whose numbers add up."""
    n = sum(c)
    return [(a, b) for i in range(n + 1) for a in compositions(i) for b in compositions(n - i)
            if c in ribbon_pair(a, b)]


def whole_cut(c):
    return [(tuple(i for i in row if i), tuple(k - i for i, k in zip(row, c) if k - i))
            for row in itertools.product(*(range(k + 1) for k in c))]


def listing_cut(w):
    return [(leveled(w[:at]), leveled(w[at:])) for at in range(len(w) + 1)]


def coarser(c):
    return [b for b in compositions(sum(c)) if places(b) <= places(c)]


def finer(c):
    return [b for b in compositions(sum(c)) if places(b) >= places(c)]


def sign(k):
    return (-1) ** (k % 2)


@functools.lru_cache(maxsize=None)
def ribbon_cut_terms(c):
    """The terms of the cuts of a ribbon, told by wholes and back by ribbons on both sides."""
    return [((x, y), sign(len(c) - len(h))) for h in coarser(c) for a, b in whole_cut(h)
            for x in coarser(a) for y in coarser(b)]


CUTS = {"plain": plain_cut, "runs": run_cut, "wholes": whole_cut, "listings": listing_cut}


def cut_terms(thing, sort):
    """The cuts of one thing, with numbers, in any sequence."""
    return ribbon_cut_terms(thing) if sort == "ribbons" else [(pair, 1) for pair in CUTS[sort](thing)]


def cut_sum(one, sort):
    return total((pair, k * j) for thing, k in one for pair, j in cut_terms(thing, sort))


def multiply(one, other, sort):
    return product(PRODUCTS[sort], one, other)


def pair_up(one, other):
    """The sum over all things of the products of both numbers."""
    numbers = dict(other)
    return sum(k * numbers.get(thing, 0) for thing, k in one)


def everywhere(lead, one):
    """The sum with each thing replaced by the sum lead(thing)."""
    return total((row, k * j) for thing, k in one for row, j in lead(thing))


def things_up_to(n, sort):
    return listings_up_to(n) if sort == "listings" else compositions_up_to(n)
