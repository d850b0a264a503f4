"""Turning back by cuts, by cuts of all depths [14], and by short rules [15]."""

import time
import unittest

import oracles
from shuffledcuts import turns
from shuffledcuts.bases import plain_of_runs, ribbons_of_wholes
from shuffledcuts.errors import CutError, NotShort, TooMany
from shuffledcuts.listings import run_sum
from shuffledcuts.sums import pairing, plus, times

COMPOSED = ("plain", "runs", "wholes", "ribbons")
SMALL = {"plain": 5, "runs": 5, "wholes": 5, "ribbons": 4, "listings": 4}
FEW_ENTRIES = [(7,), (3, 4), (8,), (5, 1, 2), (9,), (1, 8), (10,), (6, 4), (3, 4, 3), (1, 1, 8), (4, 1, 4, 1)]
OF_TEN = [*FEW_ENTRIES, (2, 2, 2, 2, 2), (1, 2, 1, 2, 1, 2, 1), (1,) * 10]
SOON = 20
BOTH = (turns.turned_back, turns.turned_by_depths)


def single(thing):
    return oracles.single(thing)


def samples(sort, number=4, count=8, most=6):
    things = oracles.things_up_to(number, sort)
    return [(), single(()), (((), -3),), *oracles.sample_sums(things, count, most, "turns " + sort)]


def product_of_all(things, sort):
    found = single(())
    for thing in things:
        found = oracles.multiply(found, single(thing), sort)
    return found


def rows_of_cuts(thing, sort):
    """All ways, with numbers, to cut a thing into things other than the empty one."""
    rows = [((thing,), 1)] if thing != () else [((), 1)]
    for (b, c), k in oracles.cut_sum(single(thing), sort):
        if b != () and c != ():
            rows.extend([((b, *row), k * j) for row, j in rows_of_cuts(c, sort)])
    return rows


def by_all_depths(thing, sort):
    """S straight from the sum over all rows of things, each product made up anew."""
    return oracles.total((row, k * oracles.sign(len(things)) * j) for things, k in rows_of_cuts(thing, sort)
                         for row, j in product_of_all(things, sort))


class Checked(unittest.TestCase):
    def check_too_many(self, limit, function, one, sort):
        with self.assertRaises(CutError) as caught:
            function(one, sort)
        self.assertIs(type(caught.exception), TooMany)
        self.assertEqual(caught.exception.limit, limit)


class Rule(Checked):
    def test_examples(self):
        for turn in BOTH:
            self.assertEqual(turn(single((1, 2)), "plain"), (((2, 1), 1), ((3,), 1)))
            self.assertEqual(turn(single((1, 2)), "runs"), times(-1, single((1, 2))))
            self.assertEqual(turn(single((3,)), "runs"), times(-1, single((1, 1, 1))))
            self.assertEqual(turn(single((2,)), "wholes"), (((1, 1), 1), ((2,), -1)))
            self.assertEqual(turn(single((2,)), "ribbons"), single((1, 1)))
            self.assertEqual(turn(single((0, 1)), "listings"), single((1, 0)))

    def test_nothing_and_the_empty_thing(self):
        for sort in oracles.SORTS:
            for turn in BOTH:
                self.assertEqual(turn((), sort), ())
                self.assertEqual(turn((((), 7),), sort), (((), 7),))

    def test_the_sum_over_the_cuts_is_nothing(self):
        for sort in oracles.SORTS:
            kept = {thing: turns.turned_back(single(thing), sort)
                    for thing in oracles.things_up_to(SMALL[sort], sort)}
            for thing in kept:
                pairs = oracles.cut_sum(single(thing), sort)
                wanted = single(()) if thing == () else ()
                left = oracles.everywhere(lambda pair: oracles.multiply(kept[pair[0]], single(pair[1]), sort), pairs)
                right = oracles.everywhere(lambda pair: oracles.multiply(single(pair[0]), kept[pair[1]], sort), pairs)
                self.assertEqual((left, right), (wanted, wanted))

    def test_listings_of_five(self):
        for thing in [(0, 1, 2, 3, 4), (4, 2, 0, 1, 3), (2, 0, 4, 1, 3), (4, 3, 2, 1, 0)]:
            left = oracles.everywhere(
                lambda pair: oracles.multiply(turns.turned_back(single(pair[0]), "listings"), single(pair[1]),
                                              "listings"),
                oracles.cut_sum(single(thing), "listings"))
            self.assertEqual(left, ())
            self.assertEqual(turns.turned_by_depths(single(thing), "listings"), by_all_depths(thing, "listings"))

    def test_by_all_depths(self):
        for sort in oracles.SORTS:
            for thing in oracles.things_up_to(4 if sort != "listings" else 3, sort):
                wanted = by_all_depths(thing, sort)
                for turn in BOTH:
                    self.assertEqual(turn(single(thing), sort), wanted)

    def test_sums(self):
        for sort in oracles.SORTS:
            for one in samples(sort):
                wanted = oracles.everywhere(lambda thing: turns.turned_back(single(thing), sort), one)
                for turn in BOTH:
                    found = turn(one, sort)
                    self.assertEqual(found, wanted)
                    self.assertTrue(oracles.is_sum(found))

    def test_both_are_equal(self):
        for sort in oracles.SORTS:
            most = {"plain": 7, "runs": 7, "wholes": 7, "ribbons": 6, "listings": 5}[sort]
            one = tuple((thing, at + 1) for at, thing in enumerate(sorted(oracles.things_up_to(most, sort))))
            self.assertEqual(turns.turned_back(one, sort), turns.turned_by_depths(one, sort))


class Laws(Checked):
    def test_done_twice(self):
        for sort in COMPOSED:
            for one in samples(sort, 5):
                for turn in BOTH:
                    self.assertEqual(turn(turn(one, sort), sort), one)

    def test_done_twice_to_listings(self):
        changed = [w for w in oracles.listings(4)
                   if turns.turned_back(turns.turned_back(single(w), "listings"), "listings") != single(w)]
        self.assertTrue(changed)

    def test_products(self):
        for sort in oracles.SORTS:
            rows = samples(sort, 2, 6, 4)
            for one in rows:
                for other in rows:
                    for turn in BOTH:
                        self.assertEqual(turn(oracles.multiply(one, other, sort), sort),
                                         oracles.multiply(turn(other, sort), turn(one, sort), sort))

    def test_pairing_of_plain_sums_and_wholes(self):
        for f in samples("plain", 5, 10, 12):
            for h in samples("wholes", 5, 10, 12):
                self.assertEqual(pairing(turns.turned_back(f, "plain"), h), pairing(f, turns.turned_back(h, "wholes")))

    def test_one_sort_told_by_another_one(self):
        for turn in BOTH:
            for one in samples("runs", 6):
                self.assertEqual(plain_of_runs(turn(one, "runs")), turn(plain_of_runs(one), "plain"))
            for one in samples("wholes", 6):
                self.assertEqual(ribbons_of_wholes(turn(one, "wholes")), turn(ribbons_of_wholes(one), "ribbons"))
            for one in samples("listings", 5, 8, 8):
                self.assertEqual(run_sum(turn(one, "listings")), turn(run_sum(one), "runs"))

    def test_additive(self):
        for sort in oracles.SORTS:
            rows = samples(sort)
            for one, other in zip(rows, rows[1:]):
                for turn in BOTH:
                    self.assertEqual(turn(plus(one, times(-2, other)), sort),
                                     plus(turn(one, sort), times(-2, turn(other, sort))))


class Limits(Checked):
    def test_listings_above_five(self):
        six = (0, 1, 2, 3, 4, 5)
        sums = [single(six), single((5, 4, 3, 2, 1, 0)), (((), 1), (six, -1), ((0, 1, 3, 2), 2)),
                (((0, 1), 1), ((0, 1, 2, 3, 4), 1), (six, 2)), ((six, 1), ((1, 0), 1)),
                (((), 1), ((0,), 2), ((5, 0, 1, 2, 3, 4), 1))]
        for one in sums:
            for turn in BOTH:
                self.check_too_many(5, turn, one, "listings")

    def test_five_entries_are_let(self):
        for turn in BOTH:
            self.assertEqual(turn(single((0, 1, 2, 3, 4)), "listings"), times(-1, single((4, 3, 2, 1, 0))))

    def test_depths_above_eight(self):
        sums = [single((9,)), single((1,) * 10), (((), 1), ((1, 8), 1), ((2, 1), 1)), (((1,), 1), ((1, 1), 1), ((4, 5), -1)),
                (((3, 3, 3), 1), ((8,), 1)), (((1, 9), 1), ((2,), 1))]
        for one in sums:
            for sort in ("wholes", "ribbons"):
                self.check_too_many(8, turns.turned_by_depths, one, sort)
                self.assertEqual(turns.turned_back(one, sort), turns.turned_short(one, sort))
            for sort in ("plain", "runs"):
                self.assertEqual(turns.turned_by_depths(one, sort), turns.turned_short(one, sort))

    def test_depths_of_just_eight(self):
        for one in [single((8,)), single((1, 7)), single((3, 2, 3)), (((), 1), ((1,) * 8, 2), ((2, 2, 4), -1))]:
            for sort in COMPOSED:
                self.assertEqual(turns.turned_by_depths(one, sort), turns.turned_short(one, sort))

    def test_great_numbers_with_few_entries_end_soon(self):
        start = time.process_time()
        for composition in FEW_ENTRIES:
            for sort in COMPOSED:
                self.assertEqual(turns.turned_back(single(composition), sort),
                                 turns.turned_short(single(composition), sort))
        self.assertLess(time.process_time() - start, SOON)


class Short(Checked):
    def test_plain(self):
        for c in oracles.compositions_up_to(6):
            wanted = oracles.total((b, oracles.sign(len(c))) for b in oracles.coarser(c[::-1]))
            self.assertEqual(turns.turned_short(single(c), "plain"), wanted)

    def test_wholes(self):
        for c in oracles.compositions_up_to(6):
            wanted = oracles.total((b, oracles.sign(len(b))) for b in oracles.finer(c[::-1]))
            self.assertEqual(turns.turned_short(single(c), "wholes"), wanted)

    def test_runs_and_ribbons(self):
        for w in oracles.listings_up_to(5):
            across = oracles.runs(w[::-1])
            for sort in ("runs", "ribbons"):
                self.assertEqual(turns.turned_short(single(oracles.runs(w)), sort),
                                 times(oracles.sign(len(w)), single(across)))

    def test_the_same_as_turned_back(self):
        for sort in COMPOSED:
            for one in samples(sort, 6) + [single(c) for c in oracles.compositions_up_to(6) + OF_TEN]:
                found = turns.turned_short(one, sort)
                self.assertEqual(found, turns.turned_back(one, sort))
                self.assertTrue(oracles.is_sum(found))

    def test_nothing_and_the_empty_composition(self):
        for sort in COMPOSED:
            self.assertEqual(turns.turned_short((), sort), ())
            self.assertEqual(turns.turned_short((((), 3),), sort), (((), 3),))

    def test_listings_have_no_short_rule(self):
        for one in [(), single(()), single((0,)), single((5, 4, 3, 2, 1, 0)), (((0, 1), 1), ((1, 0), -1))]:
            with self.assertRaises(CutError) as caught:
                turns.turned_short(one, "listings")
            self.assertIs(type(caught.exception), NotShort)


class ByName(unittest.TestCase):
    def test_all_arguments_by_name(self):
        for turn in (*BOTH, turns.turned_short):
            self.assertEqual(turn(sort="plain", one=single((1, 2))), (((2, 1), 1), ((3,), 1)))


if __name__ == "__main__":
    unittest.main()
