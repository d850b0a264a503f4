"""Flats, squeezed webs, webs turned back [24], and the orders of the ways to lead the ties [25]."""

import itertools
import time
import unittest

import oracles
from shuffledcuts import flats, orders, webs
from shuffledcuts.bases import runs_of_plain
from shuffledcuts.cuts import paired, plain_cuts
from shuffledcuts.fillings import order_sum, strict_sum
from shuffledcuts.sums import plus
from shuffledcuts.turns import turned_back, turned_by_depths, turned_short
from test_orders import closure
from test_webs import WEBS, all_ties, lots_that_hang_together, some_webs, ways_without_rounds

MIDDLING = [web for web in WEBS if web[0] <= 5]
FEW_TIES = [web for web in WEBS if len(web[1]) <= 10]
GREAT = some_webs(6, 8) + some_webs(7, 8)
SOON = 20


def is_flat(web, lot):
    least = lots_that_hang_together(web[0], lot)
    return all(tie in lot for tie in web[1] if least[tie[0]] == least[tie[1]])


def flats_by_lots_of_ties(web):
    return tuple(sorted(lot for size in range(len(web[1]) + 1) for lot in itertools.combinations(web[1], size)
                        if is_flat(web, lot)))


def partings(things):
    """All ways to part things into lots."""
    if not things:
        return [[]]
    first, rest = things[0], things[1:]
    found = []
    for size in range(len(rest) + 1):
        for lot in itertools.combinations(rest, size):
            found.extend([[(first, *lot), *others] for others in partings([x for x in rest if x not in lot])])
    return found


def flats_by_partings(web):
    """The lots of ties within the lots of a parting, where they make each lot hang together."""
    found = []
    for lots in partings(list(range(web[0]))):
        ties = tuple((x, y) for x, y in web[1] if any(x in lot and y in lot for lot in lots))
        if len(set(lots_that_hang_together(web[0], ties))) == len(lots):
            found.append(ties)
    return tuple(sorted(found))


def squeezed_by_rule(web, flat):
    least = lots_that_hang_together(web[0], flat)
    lots = [[x for x in range(web[0]) if least[x] == k] for k in sorted(set(least))]
    ties = [(a, b) for a in range(len(lots)) for b in range(a + 1, len(lots))
            if any((x, y) in web[1] or (y, x) in web[1] for x in lots[a] for y in lots[b])]
    return (len(lots), tuple(ties))


def rows_of_lots(things):
    """All rows of lots, none empty, with each thing in just one."""
    if not things:
        return [[]]
    return [[lot, *row] for size in range(1, len(things) + 1) for lot in itertools.combinations(things, size)
            for row in rows_of_lots([x for x in things if x not in lot])]


def turned_by_rows(web):
    n, ties = web
    return oracles.total(((n, tuple((x, y) for x, y in ties if any(x in lot and y in lot for lot in row))),
                          oracles.sign(len(row))) for row in rows_of_lots(list(range(n))))


class Flats(unittest.TestCase):
    def test_examples(self):
        self.assertEqual(flats.flats((0, ())), ((),))
        self.assertEqual(flats.flats((3, ())), ((),))
        self.assertEqual(flats.flats((2, ((0, 1),))), ((), ((0, 1),)))
        self.assertEqual(flats.flats((3, all_ties(3))),
                         ((), ((0, 1),), ((0, 1), (0, 2), (1, 2)), ((0, 2),), ((1, 2),)))

    def test_by_all_lots_of_ties(self):
        for web in FEW_TIES:
            found = flats.flats(web)
            self.assertEqual(found, flats_by_lots_of_ties(web))
            self.assertTrue(oracles.is_plain(found))

    def test_by_all_partings(self):
        for web in GREAT:
            found = flats.flats(web)
            self.assertEqual(found, flats_by_partings(web))
            self.assertTrue(all(is_flat(web, flat) for flat in found))

    def test_all_ties_have_as_many_as_there_are_partings(self):
        for n, many in enumerate([1, 1, 2, 5, 15, 52, 203, 877]):
            self.assertEqual(len(flats.flats((n, all_ties(n)))), many)
            self.assertEqual(len(flats.flats((n, tuple((0, x) for x in range(1, n))))), 2 ** max(n - 1, 0))


class Squeezed(unittest.TestCase):
    def test_examples(self):
        web = (5, ((0, 3), (1, 2), (1, 4), (2, 3)))
        self.assertEqual(flats.squeezed(web, ()), web)
        self.assertEqual(flats.squeezed(web, ((0, 3),)), (4, ((0, 2), (1, 2), (1, 3))))
        self.assertEqual(flats.squeezed(web, ((0, 3), (1, 4))), (3, ((0, 2), (1, 2))))
        self.assertEqual(flats.squeezed(web, web[1]), (1, ()))
        self.assertEqual(flats.squeezed((0, ()), ()), (0, ()))
        self.assertEqual(flats.squeezed((3, ()), ()), (3, ()))

    def test_by_every_flat(self):
        for web in MIDDLING:
            for flat in flats_by_lots_of_ties(web):
                found = flats.squeezed(web, flat)
                self.assertEqual(found, squeezed_by_rule(web, flat))
                self.assertEqual(webs.check_web(found), found)
                self.assertTrue(oracles.is_plain(found))

    def test_great_webs(self):
        for web in GREAT:
            for flat in flats.flats(web)[::7]:
                self.assertEqual(flats.squeezed(web, flat), squeezed_by_rule(web, flat))


class TurnedBack(unittest.TestCase):
    def test_no_place_and_no_tie(self):
        for turn in (flats.web_turned_back, flats.web_by_depths):
            self.assertEqual(turn((0, ())), (((0, ()), 1),))
            for n in range(8):
                self.assertEqual(turn((n, ())), (((n, ()), oracles.sign(n)),))

    def test_examples(self):
        for turn in (flats.web_turned_back, flats.web_by_depths):
            self.assertEqual(turn((2, ((0, 1),))), (((2, ()), 2), ((2, ((0, 1),)), -1)))
            self.assertEqual(turn((3, ((0, 1), (1, 2)))),
                             (((3, ()), -4), ((3, ((0, 1),)), 2), ((3, ((0, 1), (1, 2))), -1), ((3, ((1, 2),)), 2)))

    def test_all_ties_of_five_places(self):
        web = (5, all_ties(5))
        for found in (flats.web_turned_back(web), flats.web_by_depths(web)):
            self.assertEqual(len(found), 52)
            numbers = dict(found)
            self.assertEqual(numbers[web], -1)
            self.assertEqual(numbers[(5, ())], -120)
            self.assertEqual(numbers[(5, ((0, 1),))], 24)

    def test_by_flats(self):
        for web in FEW_TIES:
            terms = []
            for flat in flats_by_lots_of_ties(web):
                rest = squeezed_by_rule(web, flat)
                terms.append(((web[0], flat), oracles.sign(rest[0]) * len(ways_without_rounds(rest))))
            self.assertEqual(flats.web_turned_back(web), oracles.total(terms))

    def test_by_all_rows_of_lots(self):
        for web in MIDDLING + GREAT[:2]:
            self.assertEqual(flats.web_by_depths(web), turned_by_rows(web))

    def test_both_are_equal(self):
        for web in WEBS + GREAT:
            found = flats.web_turned_back(web)
            self.assertEqual(found, flats.web_by_depths(web))
            self.assertTrue(oracles.is_sum(found))
            self.assertTrue(all(webs.check_web(thing) == thing for thing, _ in found))

    def test_web_sums_are_turned_back(self):
        for web in MIDDLING + GREAT[:3] + GREAT[8:10]:
            found = oracles.everywhere(webs.web_sum, flats.web_turned_back(web))
            one = webs.web_sum(web)
            self.assertEqual(found, turned_back(one, "plain"))
            self.assertEqual(found, turned_short(one, "plain"))
            self.assertEqual(found, turned_by_depths(one, "plain"))
            self.assertEqual(found, oracles.everywhere(webs.web_sum, flats.web_by_depths(web)))

    def test_plain_cuts_of_web_sums(self):
        for web in WEBS:
            wanted = ()
            for size in range(web[0] + 1):
                for lot in itertools.combinations(range(web[0]), size):
                    rest = tuple(x for x in range(web[0]) if x not in lot)
                    wanted = plus(wanted, paired(webs.web_sum(webs.part_web(web, lot)),
                                                 webs.web_sum(webs.part_web(web, rest))))
            self.assertEqual(plain_cuts(webs.web_sum(web)), wanted)


class WebOrders(unittest.TestCase):
    def test_examples(self):
        self.assertEqual(flats.web_orders((0, ())), (((0, ()), 1),))
        self.assertEqual(flats.web_orders((4, ())), (((4, ()), 1),))
        self.assertEqual(flats.web_orders((2, ((0, 1),))), (((2, ((0, 1),)), 1), ((2, ((1, 0),)), 1)))
        self.assertEqual(flats.web_orders((3, ((0, 1), (1, 2)))),
                         (((3, ((0, 1), (0, 2), (1, 2))), 1), ((3, ((0, 1), (2, 1))), 1),
                          ((3, ((1, 0), (1, 2))), 1), ((3, ((1, 0), (2, 0), (2, 1))), 1)))

    def test_by_all_ways(self):
        for web in FEW_TIES:
            ways = ways_without_rounds(web)
            found = flats.web_orders(web)
            self.assertEqual(found, oracles.total(((web[0], closure(arrows)), 1) for arrows in ways))
            self.assertEqual(sum(k for _, k in found), len(ways))
            self.assertTrue(oracles.is_sum(found))

    def test_great_webs(self):
        for web in GREAT:
            found = flats.web_orders(web)
            self.assertTrue(oracles.is_sum(found))
            self.assertEqual(sum(k for _, k in found), webs.one_ways(web))
            for order, _ in found[::50]:
                arrows = tuple(pair for x, y in web[1] for pair in ((x, y), (y, x)) if pair in order[1])
                self.assertEqual(len(arrows), len(web[1]))
                self.assertEqual(orders.order_of(web[0], arrows), order)

    def test_strict_sums_add_up(self):
        for web in MIDDLING + [(6, all_ties(6)[::2]), (7, all_ties(7)[:6])]:
            found = oracles.everywhere(strict_sum, flats.web_orders(web))
            self.assertEqual(found, runs_of_plain(webs.web_sum(web)))

    def test_plain_sums_that_are_not_strict_are_another_matter(self):
        web = (2, ((0, 1),))
        self.assertNotEqual(oracles.everywhere(order_sum, flats.web_orders(web)), runs_of_plain(webs.web_sum(web)))


class Times(unittest.TestCase):
    def test_many_ties_end_soon(self):
        start = time.process_time()
        ties = all_ties(7)
        for many in (12, 18, 20, 21):
            web = (7, ties[:many])
            flats.flats(web)
            flats.squeezed(web, ties[:1])
            flats.web_turned_back(web)
            flats.web_by_depths(web)
            flats.web_orders(web)
        self.assertEqual(len(flats.web_orders((7, ties))), 5040)
        self.assertLess(time.process_time() - start, SOON)


class ByName(unittest.TestCase):
    def test_all_arguments_by_name(self):
        web = (2, ((0, 1),))
        self.assertEqual(flats.flats(web=web), ((), ((0, 1),)))
        self.assertEqual(flats.squeezed(flat=((0, 1),), web=web), (1, ()))
        self.assertEqual(flats.web_turned_back(web=web), (((2, ()), 2), (web, -1)))
        self.assertEqual(flats.web_by_depths(web=web), (((2, ()), 2), (web, -1)))
        self.assertEqual(flats.web_orders(web=(1, ())), (((1, ()), 1),))


if __name__ == "__main__":
    unittest.main()
