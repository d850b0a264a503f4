"""Webs, their colourings [23], and the ways to lead their ties one way [24]."""

import itertools
import random
import time
import unittest

import oracles
from shuffledcuts import webs
from shuffledcuts.errors import CutError, NotWeb, TooMany
from shuffledcuts.products import overlaid

SOON = 20


def all_ties(n):
    return tuple(itertools.combinations(range(n), 2))


def all_webs(n):
    ties = all_ties(n)
    return [(n, lot) for size in range(len(ties) + 1) for lot in itertools.combinations(ties, size)]


def some_webs(n, count):
    chance = random.Random(n)
    ties = all_ties(n)
    found = [(n, ()), (n, ties), (n, ties[:-1]), (n, tuple((x, x + 1) for x in range(n - 1)))]
    for _ in range(count):
        share = chance.choice((0.2, 0.4, 0.7))
        found.append((n, tuple(tie for tie in ties if chance.random() < share)))
    return found


SMALL = [web for n in range(4) for web in all_webs(n)]
WEBS = SMALL + some_webs(4, 10) + some_webs(5, 8) + some_webs(6, 4) + some_webs(7, 3)
MIDDLING = [web for web in WEBS if web[0] <= 5]


def is_coloured(web, row):
    return all(row[x] != row[y] for x, y in web[1])


def colouring_count(web, m):
    return sum(is_coloured(web, row) for row in itertools.product(range(m), repeat=web[0]))


def colourings_without_a_gap(web):
    terms = []
    for row in itertools.product(range(web[0]), repeat=web[0]):
        counts = tuple(row.count(k) for k in range(max(row, default=-1) + 1))
        if 0 not in counts and is_coloured(web, row):
            terms.append((counts, 1))
    return oracles.total(terms)


def lots_that_hang_together(n, ties):
    """The least places of the lots of places that hang together, for each place."""
    least = list(range(n))
    for _ in range(n):
        for x, y in ties:
            least[x] = least[y] = min(least[x], least[y])
    return least


def row_by_lots_of_ties(web):
    n, ties = web
    row = [0] * (n + 1)
    for size in range(len(ties) + 1):
        for lot in itertools.combinations(ties, size):
            row[len(set(lots_that_hang_together(n, lot)))] += oracles.sign(size)
    return tuple(row)


def worth(row, x):
    return sum(k * x ** at for at, k in enumerate(row))


def goes_round(n, arrows):
    """Whether some place leads back to itself."""
    left = set(range(n))
    while left:
        ends = {x for x in left if not any(a == x and b in left for a, b in arrows)}
        if not ends:
            return True
        left -= ends
    return False


def ways_without_rounds(web):
    n, ties = web
    found = []
    for turns in itertools.product((False, True), repeat=len(ties)):
        arrows = tuple((y, x) if turn else (x, y) for turn, (x, y) in zip(turns, ties))
        if not goes_round(n, arrows):
            found.append(arrows)
    return found


def squeezed_by_one(web):
    """The web with the ends of its last tie made one place."""
    n, ties = web
    x, y = ties[-1]
    names = [k if k < y else x if k == y else k - 1 for k in range(n)]
    pairs = {tuple(sorted((names[a], names[b]))) for a, b in ties[:-1]}
    return (n - 1, tuple(sorted(pair for pair in pairs if pair[0] != pair[1])))


class CheckWeb(unittest.TestCase):
    def check_not_web(self, value):
        with self.assertRaises(CutError, msg=repr(value)) as caught:
            webs.check_web(value)
        self.assertIs(type(caught.exception), NotWeb)

    def test_webs(self):
        for web in WEBS:
            self.assertIs(webs.check_web(web), web)

    def test_values_of_other_kinds(self):
        for value in [None, 0, "web", [2, ()], (), (2,), (2, (), ()), {2: ()}, True, b"ab", ((), 2), ((2, ()),)]:
            self.check_not_web(value)

    def test_wrong_sizes(self):
        for n in [None, "3", True, False, -1, 8, 50, (3,), [3]]:
            self.check_not_web((n, ()))

    def test_wrong_ties(self):
        for ties in [None, 0, "", "01", [], [(0, 1)], {}, ((0, 1), [1, 2]), ((0,),), ((0, 1, 2),), ((),), (0, 1),
                     ((1, 1),), ((1, 0),), ((2, 0),), ((-1, 0),), ((-1, 2),), ((0, 3),), ((3, 4),), ((0, 7),),
                     ((True, 2),), ((0, True),), ((False, 1),), (("0", "1"),), ((0, "1"),), ((0, None),),
                     ((0, 2), (0, 1)), ((1, 2), (0, 1)), ((0, 1), (0, 1)), ((0, 1), (1, 2), (1, 2)),
                     ((0, 1), (1, 0)), ((0, 1), (2, 1)), (None,), ((0, 1), None)]:
            self.check_not_web((3, ties))

    def test_no_place_has_no_tie(self):
        self.check_not_web((0, ((0, 1),)))
        self.check_not_web((1, ((0, 1),)))
        self.check_not_web((0, ((0, 0),)))


class WebSum(unittest.TestCase):
    def test_examples(self):
        self.assertEqual(webs.web_sum((0, ())), (((), 1),))
        self.assertEqual(webs.web_sum((1, ())), (((1,), 1),))
        self.assertEqual(webs.web_sum((2, ())), (((1, 1), 2), ((2,), 1)))
        self.assertEqual(webs.web_sum((2, ((0, 1),))), (((1, 1), 2),))
        self.assertEqual(webs.web_sum((3, ((0, 1), (1, 2)))), (((1, 1, 1), 6), ((1, 2), 1), ((2, 1), 1)))

    def test_by_all_colourings(self):
        for web in [web for web in WEBS if web[0] <= 6]:
            found = webs.web_sum(web)
            self.assertEqual(found, colourings_without_a_gap(web))
            self.assertTrue(oracles.is_sum(found))

    def test_all_compositions_of_seven(self):
        self.assertEqual(sum(k for _, k in webs.web_sum((7, ()))), 47293)
        self.assertEqual(dict(webs.web_sum((7, ())))[2, 4, 1], 105)
        self.assertEqual(webs.web_sum((7, all_ties(7))), (((1,) * 7, 5040),))

    def test_entries_in_any_sequence(self):
        for web in WEBS:
            numbers = dict(webs.web_sum(web))
            for c in oracles.compositions(web[0]):
                self.assertEqual(numbers.get(c), numbers.get(tuple(sorted(c))))


class Colourings(unittest.TestCase):
    def test_by_all_rows_of_numbers(self):
        for web in WEBS:
            for m in range({5: 5, 6: 4, 7: 4}.get(web[0], 6)):
                self.assertEqual(webs.colourings(web, m), colouring_count(web, m))

    def test_up_to_thirty(self):
        for m in range(31):
            self.assertEqual(webs.colourings((0, ()), m), 1)
            for n in range(1, 8):
                falling = 1
                for k in range(n):
                    falling *= m - k
                path = tuple((x, x + 1) for x in range(n - 1))
                self.assertEqual(webs.colourings((n, ()), m), m ** n)
                self.assertEqual(webs.colourings((n, all_ties(n)), m), falling)
                self.assertEqual(webs.colourings((n, path), m), m * (m - 1) ** (n - 1))

    def test_no_number(self):
        for web in WEBS:
            self.assertEqual(webs.colourings(web, 0), 1 if web[0] == 0 else 0)


class ColourRow(unittest.TestCase):
    def test_examples(self):
        self.assertEqual(webs.colour_row((0, ())), (1,))
        self.assertEqual(webs.colour_row((3, ())), (0, 0, 0, 1))
        self.assertEqual(webs.colour_row((3, ((0, 1), (1, 2)))), (0, 1, -2, 1))
        self.assertEqual(webs.colour_row((3, all_ties(3))), (0, 2, -3, 1))

    def test_by_lots_of_ties(self):
        for web in WEBS:
            if len(web[1]) <= 10:
                self.assertEqual(webs.colour_row(web), row_by_lots_of_ties(web))

    def test_the_worths_are_the_colourings(self):
        for web in WEBS:
            row = webs.colour_row(web)
            self.assertEqual(len(row), web[0] + 1)
            self.assertTrue(type(row) is tuple and all(type(k) is int for k in row))
            for m in range(31):
                self.assertEqual(worth(row, m), webs.colourings(web, m))

    def test_without_a_tie_and_squeezed_by_it(self):
        for web in WEBS:
            if web[1]:
                without = webs.colour_row((web[0], web[1][:-1]))
                squeezed = webs.colour_row(squeezed_by_one(web)) + (0,)
                self.assertEqual(webs.colour_row(web), tuple(k - j for k, j in zip(without, squeezed)))


class Beside(unittest.TestCase):
    def test_examples(self):
        self.assertEqual(webs.beside_web((2, ((0, 1),)), (3, ((0, 2),))), (5, ((0, 1), (2, 4))))
        self.assertEqual(webs.beside_web((0, ()), (2, ((0, 1),))), (2, ((0, 1),)))
        self.assertEqual(webs.beside_web((2, ((0, 1),)), (0, ())), (2, ((0, 1),)))

    def test_by_the_rule(self):
        for one in WEBS[::2]:
            for other in WEBS[::3]:
                n = one[0] + other[0]
                if n <= 7:
                    wanted = (n, one[1] + tuple((one[0] + x, one[0] + y) for x, y in other[1]))
                    found = webs.beside_web(one, other)
                    self.assertEqual(found, wanted)
                    self.assertEqual(webs.check_web(found), wanted)
                    self.assertEqual(webs.web_sum(found), overlaid(webs.web_sum(one), webs.web_sum(other)))

    def test_eight_places_are_too_many_and_seven_are_not(self):
        for n, m in [(1, 7), (7, 1), (4, 4), (7, 7), (3, 5)]:
            with self.assertRaises(CutError) as caught:
                webs.beside_web((n, ()), (m, ()))
            self.assertIs(type(caught.exception), TooMany)
            self.assertEqual(caught.exception.limit, 7)
        for n, m in [(0, 7), (7, 0), (3, 4), (6, 1)]:
            self.assertEqual(webs.beside_web((n, ()), (m, ())), (7, ()))


class PartWeb(unittest.TestCase):
    def test_examples(self):
        web = (5, ((0, 2), (1, 3), (2, 4), (3, 4)))
        self.assertEqual(webs.part_web(web, (1, 3, 4)), (3, ((0, 1), (1, 2))))
        self.assertEqual(webs.part_web(web, ()), (0, ()))
        self.assertEqual(webs.part_web(web, (4,)), (1, ()))

    def test_any_places(self):
        for web in WEBS:
            for size in range(web[0] + 1):
                for lot in itertools.combinations(range(web[0]), size):
                    wanted = tuple((x, y) for x, y in all_ties(size) if (lot[x], lot[y]) in web[1])
                    self.assertEqual(webs.part_web(web, lot), (size, wanted))
            self.assertEqual(webs.part_web(web, tuple(range(web[0]))), web)


class OneWays(unittest.TestCase):
    def test_examples(self):
        self.assertEqual(webs.one_ways((0, ())), 1)
        self.assertEqual(webs.one_ways((7, ())), 1)
        self.assertEqual(webs.one_ways((3, ((0, 1), (1, 2)))), 4)
        self.assertEqual(webs.one_ways((3, all_ties(3))), 6)
        self.assertEqual(webs.one_ways((7, all_ties(7))), 5040)

    def test_by_all_ways(self):
        for web in WEBS:
            if len(web[1]) <= 10:
                self.assertEqual(webs.one_ways(web), len(ways_without_rounds(web)))

    def test_by_the_polynomial(self):
        for web in WEBS:
            self.assertEqual(webs.one_ways(web), oracles.sign(web[0]) * worth(webs.colour_row(web), -1))

    def test_ways_with_one_end(self):
        for web in MIDDLING:
            n, ties = web
            if n and set(lots_that_hang_together(n, ties)) == {0}:
                for place in range(n):
                    ways = [arrows for arrows in ways_without_rounds(web)
                            if {x for x in range(n) if not any(a == x for a, _ in arrows)} == {place}]
                    self.assertEqual(len(ways), abs(webs.colour_row(web)[1]))


class Times(unittest.TestCase):
    def test_many_ties_end_soon(self):
        start = time.process_time()
        ties = all_ties(7)
        for many in (0, 5, 10, 15, 20, 21):
            web = (7, ties[:many])
            webs.web_sum(web)
            webs.colourings(web, 30)
            webs.colour_row(web)
            webs.one_ways(web)
        self.assertLess(time.process_time() - start, SOON)


class ByName(unittest.TestCase):
    def test_all_arguments_by_name(self):
        web = (2, ((0, 1),))
        self.assertEqual(webs.check_web(value=web), web)
        self.assertEqual(webs.web_sum(web=web), (((1, 1), 2),))
        self.assertEqual(webs.colourings(m=30, web=web), 870)
        self.assertEqual(webs.colour_row(web=web), (0, -1, 1))
        self.assertEqual(webs.beside_web(other=(1, ()), one=web), (3, ((0, 1),)))
        self.assertEqual(webs.part_web(places=(1,), web=web), (1, ()))
        self.assertEqual(webs.one_ways(web=web), 2)


if __name__ == "__main__":
    unittest.main()
