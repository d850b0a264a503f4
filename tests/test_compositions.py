"""Compositions and their places [1], [3], turning about and runs [4]."""

import itertools
import math
import unittest

import oracles
from shuffledcuts import compositions as made
from shuffledcuts.errors import CutError, NotComposition

SMALL = oracles.compositions_up_to(7)
ALL = oracles.compositions_up_to(10)
WRONG_ENTRIES = [0, -1, True, False, "1", "", None, [1], (1,), (), 1.0, b"1", -(10 ** 40)]


class CheckComposition(unittest.TestCase):
    def place(self, value):
        with self.assertRaises(NotComposition) as caught:
            made.check_composition(value)
        self.assertIsInstance(caught.exception, CutError)
        return caught.exception.place

    def test_each_composition_is_returned_itself(self):
        for composition in ALL:
            self.assertIs(made.check_composition(composition), composition)
        self.assertEqual(made.check_composition(()), ())

    def test_a_value_that_is_no_tuple(self):
        for value in [[], [1, 2], "", "12", None, 0, 3, True, {}, {1: 2}, {1}, b"1", range(3), 1.5]:
            with self.subTest(value=value):
                self.assertEqual(self.place(value), -1)

    def test_a_list_is_left_as_it_is(self):
        value = [1, 2]
        self.place(value)
        self.assertEqual(value, [1, 2])

    def test_a_wrong_entry_at_each_place(self):
        for row in [(1,), (2, 1), (1, 2, 1), (1, 1, 1, 1)]:
            for at in range(len(row)):
                for entry in WRONG_ENTRIES:
                    with self.subTest(row=row, at=at, entry=entry):
                        self.assertEqual(self.place(row[:at] + (entry,) + row[at + 1:]), at)

    def test_the_first_of_several_wrong_entries(self):
        self.assertEqual(self.place((1, True, 0, None)), 1)
        self.assertEqual(self.place((2, 3, -4, "x")), 2)

    def test_a_sum_above_ten(self):
        for value, place in [((11,), 0), ((10 ** 50,), 0), ((1, 10), 1), ((10, 1), 1), ((5, 5, 1), 2), ((5, 6, 1), 1),
                             ((1,) * 11, 10), ((1,) * 15, 10), ((3, 3, 3, 2, 1), 3), ((1, 10 ** 30, 2), 1)]:
            with self.subTest(value=value):
                self.assertEqual(self.place(value), place)

    def test_a_wrong_entry_goes_ahead_of_a_sum_above_ten(self):
        for value, place in [((11, 0), 1), ((0, 11), 0), ((5, 6, 1, True), 3), ((10, 10, 10, "x", 0), 3),
                             ((10 ** 30, 1, None), 2), ((1,) * 12 + (-1,), 12), ((-5, 11), 0), ((11, -5), 1)]:
            with self.subTest(value=value):
                self.assertEqual(self.place(value), place)


class Places(unittest.TestCase):
    def test_all_compositions(self):
        for n in range(11):
            found = made.all_compositions(n)
            self.assertTrue(oracles.is_plain(found))
            self.assertEqual(found, tuple(oracles.compositions(n)))
            self.assertEqual(len(found), 2 ** (n - 1) if n else 1)
            self.assertEqual(len(set(found)), len(found))
        self.assertEqual(made.all_compositions(0), ((),))
        self.assertEqual(made.all_compositions(1), ((1,),))
        self.assertEqual(made.all_compositions(3), ((1, 1, 1), (1, 2), (2, 1), (3,)))

    def test_somewhat_beyond_the_limit_raises_nothing(self):
        self.assertEqual(len(made.all_compositions(12)), 2 ** 11)
        self.assertEqual(sum(made.count_by_runs(c) for c in made.all_compositions(11)), math.factorial(11))

    def test_places_of(self):
        self.assertEqual(made.places_of((2, 1, 3)), (2, 3))
        for composition in ALL:
            found = made.places_of(composition)
            self.assertEqual(found, tuple(sorted(oracles.places(composition) - {0})))
            self.assertTrue(oracles.is_plain(found))

    def test_of_places_and_places_of_undo_one_another(self):
        for composition in ALL:
            found = made.of_places(sum(composition), made.places_of(composition))
            self.assertEqual(found, composition)
            self.assertTrue(oracles.is_plain(found))
        for n in range(11):
            for size in range(max(n, 1)):
                for places in itertools.combinations(range(1, n), size):
                    self.assertEqual(made.places_of(made.of_places(n, places)), places)
        self.assertEqual(made.of_places(0, ()), ())
        self.assertEqual(made.of_places(1, ()), (1,))
        self.assertEqual(made.of_places(6, (2, 3)), (2, 1, 3))
        self.assertEqual(made.places_of(()), ())
        self.assertEqual(made.places_of((1,)), ())

    def test_is_finer(self):
        for one in SMALL:
            for other in SMALL:
                wanted = sum(one) == sum(other) and oracles.places(one) >= oracles.places(other)
                self.assertIs(made.is_finer(one, other), wanted)
        self.assertIs(made.is_finer((1, 1, 1), (2, 1)), True)
        self.assertIs(made.is_finer((2, 1), (1, 1, 1)), False)
        self.assertIs(made.is_finer((1, 1), (3,)), False)
        self.assertIs(made.is_finer((1, 3), (1, 2)), False)

    def test_finer_and_coarser_ones(self):
        for composition in SMALL + [(10,), (1,) * 10, (3, 1, 4, 2), (1, 8, 1)]:
            same = oracles.compositions(sum(composition))
            finer = tuple(c for c in same if oracles.places(c) >= oracles.places(composition))
            coarser = tuple(c for c in same if oracles.places(c) <= oracles.places(composition))
            self.assertEqual(made.finer_ones(composition), finer)
            self.assertEqual(made.coarser_ones(composition), coarser)
            self.assertTrue(oracles.is_plain((made.finer_ones(composition), made.coarser_ones(composition))))
        self.assertEqual(made.finer_ones(()), ((),))
        self.assertEqual(made.coarser_ones(()), ((),))


class TurningAbout(unittest.TestCase):
    def test_each_by_places(self):
        for composition in ALL:
            n = sum(composition)
            places = oracles.places(composition) - {0}
            mirrored = sorted(n - place for place in places)
            others = sorted(set(range(1, n)) - places)
            self.assertEqual(made.turned(composition), oracles.from_places(n, mirrored))
            self.assertEqual(made.other_side(composition), oracles.from_places(n, others))
            self.assertEqual(made.across(composition), oracles.from_places(n, sorted(n - p for p in others)))

    def test_examples(self):
        self.assertEqual(made.turned((1, 2, 3)), (3, 2, 1))
        self.assertEqual(made.other_side((1, 2, 3)), (2, 2, 1, 1))
        self.assertEqual(made.across((1, 2, 3)), (1, 1, 2, 2))
        self.assertEqual(made.other_side((4,)), (1, 1, 1, 1))

    def test_done_twice_and_exchanged(self):
        ways = (made.turned, made.other_side, made.across)
        for composition in ALL:
            for way in ways:
                self.assertEqual(way(way(composition)), composition)
                self.assertTrue(oracles.is_plain(way(composition)))
                for another in ways:
                    self.assertEqual(way(another(composition)), another(way(composition)))

    def test_lengths_add_up(self):
        for composition in ALL:
            if composition:
                lengths = len(composition) + len(made.other_side(composition))
                self.assertEqual(lengths, sum(composition) + 1)

    def test_the_empty_composition(self):
        for way in (made.turned, made.other_side, made.across):
            self.assertEqual(way(()), ())


class Runs(unittest.TestCase):
    def test_runs_of(self):
        self.assertEqual(made.runs_of(()), ())
        self.assertEqual(made.runs_of((0,)), (1,))
        self.assertEqual(made.runs_of((1, 3, 0, 4, 2)), (2, 2, 1))
        for listing in oracles.listings_up_to(6):
            found = made.runs_of(listing)
            self.assertEqual(found, oracles.runs(listing))
            self.assertTrue(oracles.is_plain(found))

    def test_the_listing_read_from_its_end_has_the_runs_across(self):
        for listing in oracles.listings_up_to(6):
            self.assertEqual(made.runs_of(listing[::-1]), made.across(made.runs_of(listing)))

    def test_count_by_runs_by_listings(self):
        for n in range(7):
            found = [oracles.runs(listing) for listing in oracles.listings(n)]
            for composition in oracles.compositions(n):
                self.assertEqual(made.count_by_runs(composition), found.count(composition))
        self.assertEqual(made.count_by_runs(()), 1)

    def test_count_by_runs_by_the_signed_sum(self):
        for n in range(7, 11):
            for composition in oracles.compositions(n):
                wanted = 0
                places = sorted(oracles.places(composition))
                for size in range(len(places) + 1):
                    for left in itertools.combinations(places, size):
                        coarser = oracles.from_places(n, left)
                        ways = math.factorial(n) // math.prod(math.factorial(entry) for entry in coarser)
                        wanted += (-1) ** (len(composition) - len(coarser)) * ways
                self.assertEqual(made.count_by_runs(composition), wanted)

    def test_all_counts_add_up_to_the_factorial(self):
        for n in range(11):
            counts = [made.count_by_runs(composition) for composition in oracles.compositions(n)]
            self.assertTrue(all(type(count) is int and count > 0 for count in counts))
            self.assertEqual(sum(counts), math.factorial(n))


class ByName(unittest.TestCase):
    def test_all_arguments_by_name(self):
        self.assertEqual(made.check_composition(value=(1, 2)), (1, 2))
        self.assertEqual(made.all_compositions(n=2), ((1, 1), (2,)))
        self.assertEqual(made.places_of(composition=(1, 2)), (1,))
        self.assertEqual(made.of_places(n=3, places=(1,)), (1, 2))
        self.assertIs(made.is_finer(one=(1, 1), other=(2,)), True)
        self.assertEqual(made.finer_ones(composition=(2,)), ((1, 1), (2,)))
        self.assertEqual(made.coarser_ones(composition=(1, 1)), ((1, 1), (2,)))
        self.assertEqual(made.turned(composition=(1, 2)), (2, 1))
        self.assertEqual(made.other_side(composition=(1, 2)), (2, 1))
        self.assertEqual(made.across(composition=(1, 2)), (1, 2))
        self.assertEqual(made.runs_of(listing=(1, 0)), (1, 1))
        self.assertEqual(made.count_by_runs(composition=(1, 2)), 2)


if __name__ == "__main__":
    unittest.main()
