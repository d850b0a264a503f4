"""The four ways to read sums over compositions, and how one leads to another."""

from shuffledcuts.compositions import coarser_ones, finer_ones, sign_of
from shuffledcuts.sums import gathered, replaced


def replaced_with_signs(one, things_of):
    """Return the sum with each composition replaced by things_of it, with 1 or -1 by how the lengths differ."""
    return gathered([(row, k * sign_of(len(row) - len(old))) for old, k in one for row in things_of(old)])


def plain_of_runs(one):
    """Return the plain sum that a run sum is."""
    return replaced(one, finer_ones)


def runs_of_plain(one):
    """Return the run sum that a plain sum is."""
    return replaced_with_signs(one, finer_ones)


def ribbons_of_wholes(one):
    """Return the ribbon sum that a whole sum is."""
    return replaced(one, coarser_ones)


def wholes_of_ribbons(one):
    """Return the whole sum that a ribbon sum is."""
    return replaced_with_signs(one, coarser_ones)
