"""Turning back sums of the five sorts: by cuts, by cuts of all depths, and by short rules."""

from shuffledcuts.compositions import across, coarser_ones, finer_ones, sign_of, turned
from shuffledcuts.cuts import cuts_as, product_as
from shuffledcuts.errors import NotShort, TooMany
from shuffledcuts.sums import everywhere, gathered, times

GREATEST_LISTING_TURNED = 5
GREATEST_BY_DEPTHS = 8


def check_lengths(one, sort):
    """Raise TooMany if a listing of a sum over listings is too long to be turned back."""
    if sort == "listings" and any([len(thing) > GREATEST_LISTING_TURNED for thing, _ in one]):
        raise TooMany(GREATEST_LISTING_TURNED)


def check_numbers(one, sort):
    """Raise TooMany if a composition of a whole or ribbon sum has too great a number for all depths."""
    if sort in ("wholes", "ribbons") and any([sum(thing) > GREATEST_BY_DEPTHS for thing, _ in one]):
        raise TooMany(GREATEST_BY_DEPTHS)


def turned_thing(thing, sort, kept):
    """Return S of a thing; kept has S of the empty thing and of those found so far."""
    if thing not in kept:
        terms = []
        for (b, c), k in cuts_as(((thing, 1),), sort):
            # The one cut without a second thing has S(thing), which the other ones add up to nothing with.
            if c:
                terms.extend(times(-k, product_as(turned_thing(b, sort, kept), ((c, 1),), sort)))
        kept[thing] = gathered(terms)
    return kept[thing]


def turned_back(one, sort):
    """Return S of a sum of the sort, by the rule that the sum of S(b) times c over all cuts is nothing."""
    check_lengths(one, sort)
    kept = {(): (((), 1),)}
    return everywhere(one, lambda thing: turned_thing(thing, sort, kept))


def depths_of_thing(thing, sort, kept):
    """Return the signed sum, over all ways to cut a thing into things other than the empty one, of their products."""
    # The ways to cut into k things are a first thing b and a way to cut what is left into k - 1 things.
    if thing not in kept:
        terms = []
        for (b, c), k in cuts_as(((thing, 1),), sort):
            if b:
                terms.extend(times(-k, product_as(((b, 1),), depths_of_thing(c, sort, kept), sort)))
        kept[thing] = gathered(terms)
    return kept[thing]


def turned_by_depths(one, sort):
    """Return S of a sum of the sort, by cuts of all depths."""
    check_lengths(one, sort)
    check_numbers(one, sort)
    kept = {(): (((), 1),)}
    return everywhere(one, lambda thing: depths_of_thing(thing, sort, kept))


def plain_short(composition):
    """Return S of a composition in a plain sum."""
    sign = sign_of(len(composition))
    return [(row, sign) for row in coarser_ones(turned(composition))]


def whole_short(composition):
    """Return S of a composition in a whole sum."""
    return [(row, sign_of(len(row))) for row in finer_ones(turned(composition))]


def across_short(composition):
    """Return S of a composition in a run sum or a ribbon sum."""
    return [(across(composition), sign_of(sum(composition)))]


def turned_short(one, sort):
    """Return S of a sum over compositions by the short rules."""
    if sort == "listings":
        raise NotShort("listings have no short rule")
    if sort == "plain":
        return everywhere(one, plain_short)
    if sort == "wholes":
        return everywhere(one, whole_short)
    return everywhere(one, across_short)
