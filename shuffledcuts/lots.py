"""Wide and narrow lots of listings, and how they go one after another."""

from itertools import permutations

from shuffledcuts.bases import ribbons_of_wholes, wholes_of_ribbons
from shuffledcuts.compositions import all_compositions, is_finer, runs_of, sign_of
from shuffledcuts.errors import TooMany
from shuffledcuts.listings import GREATEST_LISTING
from shuffledcuts.sums import degree_part, everywhere, gathered, sum_of_counts, times

MOST_TABLES = 10000


def listings_of_number(composition):
    """Return all listings of the number of the composition, ascending, or raise TooMany."""
    n = sum(composition)
    if n > GREATEST_LISTING:
        raise TooMany(GREATEST_LISTING)
    return list(permutations(range(n)))


def wide_lot(composition):
    """Return the sum of all listings whose runs are coarser than the composition."""
    rows = listings_of_number(composition)
    return tuple([(listing, 1) for listing in rows if is_finer(composition, runs_of(listing))])


def narrow_lot(composition):
    """Return the sum of all listings whose runs are the composition."""
    return tuple([(listing, 1) for listing in listings_of_number(composition) if runs_of(listing) == composition])


def table_rows(total, columns):
    """Return all rows of integers of at least 0 with this sum, none of them above what its column has left."""
    rows = [((), total)]
    room = sum(columns)
    for column in columns:
        room -= column
        # What the columns behind this one cannot take must stand here.
        rows = [(row + (k,), left - k) for row, left in rows
                for k in range(max(0, left - room), min(column, left) + 1)]
    return [row for row, _ in rows]


def less(columns, row):
    """Return what a row leaves of the columns."""
    return tuple([column - k for column, k in zip(columns, row)])


def table_count(a, b):
    """Return how many tables have rows of the sums a and columns of the sums b, both of one number."""
    # How many there are does not hang on the sequence of the columns, so few states are left when these are sorted.
    counts = {tuple(sorted(b)): 1}
    for entry in a:
        following = {}
        for columns, k in counts.items():
            for row in table_rows(entry, columns):
                left = tuple(sorted(less(columns, row)))
                following[left] = following.get(left, 0) + k
        counts = following
    return sum(counts.values())


def check_tables(one, other):
    """Raise TooMany if two compositions of one number, of one and of other, have too many tables."""
    # Rows or columns in another sequence make as many tables.
    for a in sorted({tuple(sorted(composition)) for composition, _ in one}):
        for b in sorted({tuple(sorted(composition)) for composition, _ in other}):
            if sum(a) == sum(b) and table_count(a, b) > MOST_TABLES:
                raise TooMany(MOST_TABLES)


def positive(row):
    """Return the row without zeros."""
    return tuple([k for k in row if k > 0])


def first_rows(total, columns, kept):
    """Return the sum of the pairs (row, what it leaves of the columns), both without zeros, for all first rows."""
    if (total, columns) not in kept:
        rows = table_rows(total, columns)
        kept[(total, columns)] = gathered([((positive(row), positive(less(columns, row))), 1) for row in rows])
    return kept[(total, columns)]


def with_row(states, total, kept):
    """Return the states (entries so far, columns left), with numbers, that one more row of the tables leads to."""
    counts = {}
    for (entries, columns), k in states:
        for (row, left), j in first_rows(total, columns, kept):
            counts[(entries + row, left)] = counts.get((entries + row, left), 0) + k * j
    return sum_of_counts(counts)


def table_terms(a, other, reach, kept):
    """Return the sum of the entries of all tables with row sums a and column sums of other, all of one number.

    A row may also take as many as reach neighbouring entries of a together, with -1 for each joint between them.
    """
    # Tables go on together once they have the same entries so far and leave the same columns.
    stages = [[] for _ in range(len(a) + 1)]
    stages[0] = [(((), columns), k) for columns, k in other]
    for start in range(len(a)):
        states = gathered(stages[start])
        for end in range(start + 1, min(start + reach, len(a)) + 1):
            stages[end].extend(times(sign_of(end - start - 1), with_row(states, sum(a[start:end]), kept)))
    return gathered([(entries, k) for (entries, _), k in stages[-1]])


def lot_product(one, other):
    """Return the product of sums of wide lots."""
    check_tables(one, other)
    kept = {}
    return everywhere(one, lambda a: table_terms(a, degree_part(other, sum(a)), 1, kept))


def narrow_product(one, other):
    """Return the product of sums of narrow lots."""
    # Coarser compositions have no more tables, so those as given are enough to look at.
    check_tables(one, other)
    kept = {}
    wide = wholes_of_ribbons(other)
    # A narrow lot of a is the signed sum of the wide lots of all coarser ones: rows may reach over all of a.
    return ribbons_of_wholes(everywhere(one, lambda a: table_terms(a, degree_part(wide, sum(a)), len(a), kept)))


def partitions(n):
    """Return the compositions of n whose entries never rise, ascending."""
    return [row for row in all_compositions(n) if row == tuple(sorted(row, reverse=True))]


def ways_to_fill(entries, boxes):
    """Return how many ways there are to put all entries, each taken apart, into boxes so that each is filled just."""
    counts = {tuple(sorted(boxes)): 1}
    for entry in entries:
        following = {}
        for row, k in counts.items():
            for at, box in enumerate(row):
                if box >= entry:
                    left = tuple(sorted(row[:at] + (box - entry,) + row[at + 1:]))
                    following[left] = following.get(left, 0) + k
        counts = following
    # Entries and boxes add up to the same number, so nothing is left of any box.
    return sum(counts.values())


def lot_counts(one):
    """Return (partition, number) for all partitions of the one number of the sum, ascending."""
    n = sum(one[0][0])
    boxes = gathered([(tuple(sorted(composition)), k) for composition, k in one])
    return tuple([(row, sum([k * ways_to_fill(row, sizes) for sizes, k in boxes])) for row in partitions(n)])
