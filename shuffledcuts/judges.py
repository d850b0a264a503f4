"""The plain sums that judges tell of listings, orders and webs; peaks of compositions and their sums."""

from shuffledcuts.compositions import all_compositions, places_of
from shuffledcuts.cuts import run_parts
from shuffledcuts.listings import run_sum
from shuffledcuts.partings import told_by_lots
from shuffledcuts.sums import everywhere, gathered
from shuffledcuts.webs import is_tied


def judged_runs(runs, judge):
    """Return what the judge gives a listing, not the empty one, with these runs."""
    if judge == "rising":
        return 1 if len(runs) == 1 else 0
    if judge == "falling":
        return 1 if len(runs) == sum(runs) else 0
    # The least entry, at which a falling part turns into a rising one, may belong to either of them.
    return 2 if len(runs) - 1 == sum(runs[:-1]) else 0


def told_runs(runs, judge, kept):
    """Return the plain sum that the judge tells of a listing with these runs; kept has those found so far."""
    # Neither what a judge gives a listing nor how it is cut hangs on more than its runs.
    if runs not in kept:
        terms = []
        for first, rest in run_parts(runs):
            number = judged_runs(first, judge) if first else 0
            if number != 0:
                terms.extend([((sum(first),) + sizes, number * k) for sizes, k in told_runs(rest, judge, kept)])
        kept[runs] = gathered(terms)
    return kept[runs]


def told_listings(one, judge):
    """Return the plain sum that the judge tells of a sum over listings."""
    kept = {(): (((), 1),)}
    return everywhere(run_sum(one), lambda runs: told_runs(runs, judge, kept))


def told_orders(order, judge):
    """Return the plain sum that the judge tells of an order."""
    n, pairs = order
    against = [(x, y) for x, y in pairs if (x > y) == (judge == "rising")]

    def judged(lot, rest):
        is_lower = not any([x in rest and y in lot for x, y in pairs])
        return 1 if is_lower and not is_tied(against, lot) else 0

    return told_by_lots(n, judged)


def told_webs(web, judge):
    """Return the plain sum that the judge tells of a web."""
    n, ties = web
    against = ties if judge == "tieless" else ()
    return told_by_lots(n, lambda lot, rest: 0 if is_tied(against, lot) else 1)


def peaks_of(composition):
    """Return the peaks of a composition, ascending."""
    places = places_of(composition)
    return tuple([place for place in places if place > 1 and place - 1 not in places])


def peak_sum(n, peaks):
    """Return the plain sum of the compositions of n with a place at or just ahead of each of the peaks."""
    terms = []
    for composition in all_compositions(n):
        places = places_of(composition)
        if all([peak in places or peak - 1 in places for peak in peaks]):
            terms.append((composition, 1 << len(composition)))
    return tuple(terms)
