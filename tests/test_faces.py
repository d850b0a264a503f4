"""Faces and their product [35], the walks over listings that they lead [36]."""

import itertools
import math
import time
import unittest

import oracles
from shuffledcuts import faces
from shuffledcuts.errors import CutError, NotFit
from shuffledcuts.lots import lot_counts, lot_product, wide_lot

COUNTS = [1, 1, 3, 13, 75, 541]
SOON = 20


def single(thing):
    return oracles.single(thing)


def faces_by_places(n):
    """All faces of n, by the place of the lot in which each integer is."""
    found = []
    for row in itertools.product(range(n), repeat=n):
        lots = [tuple(x for x in range(n) if row[x] == at) for at in range(max(row, default=-1) + 1)]
        if all(lots):
            found.append(tuple(lots))
    return sorted(found)


FACES = [faces_by_places(n) for n in range(6)]


def product_pair(f, g):
    rows = [tuple(sorted(set(lot) & set(other))) for lot in f for other in g]
    return [tuple(row for row in rows if row)]


def face_of_listing(u):
    return tuple((x,) for x in u)


def table_by_products(n, one):
    listings = oracles.listings(n)
    return tuple(tuple(sum(k for f, k in one if product_pair(f, face_of_listing(u)) == [face_of_listing(v)])
                       for v in listings) for u in listings)


def partings(n):
    """All partings of 0, .., n - 1 into lots, picked from all faces."""
    return sorted({tuple(sorted(face)) for face in FACES[n]})


def samples(n, count, seed, terms=5):
    return [(), *oracles.sample_sums(FACES[n], count, terms, f"faces {seed} {n}")]


def multiplied(one, other):
    columns = list(zip(*other))
    return tuple(tuple(sum(a * b for a, b in zip(row, column)) for column in columns) for row in one)


def middle(table):
    return sum(table[at][at] for at in range(len(table)))


class Checked(unittest.TestCase):
    def check_not_fit(self, one, other):
        with self.assertRaises(CutError) as caught:
            faces.face_product(one, other)
        self.assertIs(type(caught.exception), NotFit)


class AllFaces(unittest.TestCase):
    def test_examples(self):
        self.assertEqual(faces.all_faces(0), ((),))
        self.assertEqual(faces.all_faces(1), (((0,),),))
        self.assertEqual(faces.all_faces(2), (((0,), (1,)), ((0, 1),), ((1,), (0,))))

    def test_all_numbers(self):
        for n in range(6):
            found = faces.all_faces(n)
            self.assertEqual(len(found), COUNTS[n])
            self.assertEqual(found, tuple(FACES[n]))
            self.assertTrue(oracles.is_plain(found))


class Product(Checked):
    def test_examples(self):
        self.assertEqual(faces.face_product(single(((0, 1), (2,))), single(((1, 2), (0,)))),
                         single(((1,), (0,), (2,))))
        self.assertEqual(faces.face_product(single(((1,), (0, 2))), single(((0, 1, 2),))), single(((1,), (0, 2))))
        self.assertEqual(faces.face_product(single(()), (((), -3),)), (((), -3),))

    def test_all_faces_up_to_three_things(self):
        for n in range(4):
            for f in FACES[n]:
                for g in FACES[n]:
                    self.assertEqual(faces.face_product(single(f), single(g)), single(product_pair(f, g)[0]))

    def test_greater_faces(self):
        for f in FACES[4][::3] + FACES[4][-3:]:
            for g in FACES[4][::2]:
                self.assertEqual(faces.face_product(single(f), single(g)), single(product_pair(f, g)[0]))
        for f in FACES[5][::23]:
            for g in FACES[5][::19]:
                self.assertEqual(faces.face_product(single(f), single(g)), single(product_pair(f, g)[0]))

    def test_sums(self):
        for n in range(6):
            for one in samples(n, 6, "one"):
                for other in samples(n, 6, "other"):
                    found = faces.face_product(one, other)
                    self.assertEqual(found, oracles.product(product_pair, one, other))
                    self.assertTrue(oracles.is_sum(found))

    def test_terms_that_take_one_another_away(self):
        f, g = ((0,), (1,)), ((0, 1),)
        one = ((f, 1), (g, -1))
        self.assertEqual(faces.face_product(one, single(f)), ())
        self.assertEqual(faces.face_product(single(f), one), ())
        self.assertEqual(faces.face_product(one, single(g)), one)

    def test_done_twice(self):
        for n in range(5):
            for f in FACES[n]:
                self.assertEqual(faces.face_product(single(f), single(f)), single(f))
                for g in FACES[n][::4]:
                    fg = faces.face_product(single(f), single(g))
                    self.assertEqual(faces.face_product(fg, single(f)), fg)

    def test_unlike_numbers(self):
        two, three, none = ((0, 1),), ((0,), (1, 2)), ()
        for one, other in [(single(two), single(three)), (single(three), single(two)), (single(none), single(two)),
                           (single(two), single(none))]:
            self.check_not_fit(one, other)

    def test_unlike_numbers_in_one_sum(self):
        mixed = oracles.total([(((0,), (1,)), 1), (((0, 1, 2),), 2)])
        others = oracles.total([((), -1), (((1,), (0,)), 1)])
        for one in (mixed, others):
            for other in [(), single(((0,), (1,))), single(((0, 1, 2),)), single(()), mixed, others]:
                self.check_not_fit(one, other)
                self.check_not_fit(other, one)

    def test_the_sum_of_nothing_fits(self):
        for n in range(6):
            for one in samples(n, 3, "nothing"):
                self.assertEqual(faces.face_product(one, ()), ())
                self.assertEqual(faces.face_product((), one), ())


class FaceLot(unittest.TestCase):
    def test_examples(self):
        self.assertEqual(faces.face_lot(()), (((), 1),))
        self.assertEqual(faces.face_lot((3,)), single(((0, 1, 2),)))
        self.assertEqual(faces.face_lot((1, 2)), ((((0,), (1, 2)), 1), (((1,), (0, 2)), 1), (((2,), (0, 1)), 1)))

    def test_all_compositions(self):
        for c in oracles.compositions_up_to(5):
            found = faces.face_lot(c)
            self.assertEqual(found, tuple((f, 1) for f in FACES[sum(c)] if tuple(map(len, f)) == c))
            self.assertTrue(oracles.is_sum(found))

    def test_products_by_tables(self):
        for n in range(6):
            for a in oracles.compositions(n):
                for b in oracles.compositions(n):
                    if n < 5 or len(a) + len(b) <= 6:
                        wanted = oracles.everywhere(faces.face_lot, lot_product(single(a), single(b)))
                        self.assertEqual(faces.face_product(faces.face_lot(a), faces.face_lot(b)), wanted)


class WalkTable(unittest.TestCase):
    def test_examples(self):
        self.assertEqual(faces.walk_table(0, ()), ((0,),))
        self.assertEqual(faces.walk_table(0, (((), 5),)), ((5,),))
        self.assertEqual(faces.walk_table(1, single(((0,),))), ((1,),))
        self.assertEqual(faces.walk_table(2, ((((0,), (1,)), 3), (((0, 1),), 10), (((1,), (0,)), -1))),
                         ((13, -1), (3, 9)))

    def test_nothing(self):
        for n in range(5):
            many = math.factorial(n)
            self.assertEqual(faces.walk_table(n, ()), ((0,) * many,) * many)

    def test_single_faces(self):
        for n in range(4):
            for f in FACES[n]:
                self.assertEqual(faces.walk_table(n, single(f)), table_by_products(n, single(f)))
        for f in FACES[4][::6]:
            self.assertEqual(faces.walk_table(4, single(f)), table_by_products(4, single(f)))

    def test_sums(self):
        for n in range(5):
            for one in samples(n, 4, "walks"):
                found = faces.walk_table(n, one)
                self.assertEqual(found, table_by_products(n, one))
                self.assertTrue(oracles.is_plain(found))

    def test_by_face_product(self):
        listings = oracles.listings(4)
        for one in samples(4, 3, "products"):
            table = faces.walk_table(4, one)
            for at in (0, 7, 23):
                numbers = dict(faces.face_product(one, single(face_of_listing(listings[at]))))
                self.assertEqual(table[at], tuple(numbers.get(face_of_listing(v), 0) for v in listings))

    def test_products(self):
        for n in range(5):
            for one in samples(n, 4, "left"):
                for other in samples(n, 4, "right"):
                    self.assertEqual(faces.walk_table(n, faces.face_product(one, other)),
                                     multiplied(faces.walk_table(n, other), faces.walk_table(n, one)))

    def test_face_lots_by_wide_lots(self):
        for n in range(5):
            for c in oracles.compositions(n):
                wide = dict(wide_lot(c))
                self.assertEqual(faces.walk_table(n, faces.face_lot(c))[0],
                                 tuple(wide.get(w, 0) for w in oracles.listings(n)))


class WalkNumbers(unittest.TestCase):
    def test_examples(self):
        self.assertEqual(faces.walk_numbers(0, ()), (((), 0, 1),))
        self.assertEqual(faces.walk_numbers(0, (((), 4),)), (((), 4, 1),))
        self.assertEqual(faces.walk_numbers(2, ((((0,), (1,)), 3), (((0, 1),), 10), (((1,), (0,)), -1))),
                         ((((0,), (1,)), 12, 1), (((0, 1),), 10, 1)))
        self.assertEqual(faces.walk_numbers(3, single(((1,), (0, 2)))),
                         ((((0,), (1,), (2,)), 1, 1), (((0,), (1, 2)), 0, 1), (((0, 1), (2,)), 0, 1),
                          (((0, 1, 2),), 0, 2), (((0, 2), (1,)), 1, 1)))

    def test_by_the_rule(self):
        for n in range(6):
            for one in samples(n, 5, "numbers", 8):
                wanted = []
                for parting in partings(n):
                    number = sum(k for f, k in one if all(any(set(part) <= set(lot) for lot in f) for part in parting))
                    times_told = math.prod(math.factorial(len(part) - 1) for part in parting)
                    wanted.append((parting, number, times_told))
                found = faces.walk_numbers(n, one)
                self.assertEqual(found, tuple(wanted))
                self.assertTrue(oracles.is_plain(found))

    def test_all_times_add_up(self):
        for n in range(6):
            found = faces.walk_numbers(n, ())
            self.assertEqual(len(found), [1, 1, 2, 5, 15, 52][n])
            self.assertEqual(sum(row[2] for row in found), math.factorial(n))

    def test_powers_of_the_table(self):
        for n in range(5):
            for one in samples(n, 4, "powers"):
                table = faces.walk_table(n, one)
                power = table
                for exponent in range(1, 5 if n < 4 else 4):
                    self.assertEqual(middle(power), sum(many * number ** exponent
                                                        for _, number, many in faces.walk_numbers(n, one)))
                    power = multiplied(power, table)

    def test_products(self):
        for n in range(6):
            for one in samples(n, 4, "left"):
                for other in samples(n, 4, "right"):
                    both = zip(faces.walk_numbers(n, one), faces.walk_numbers(n, other))
                    wanted = tuple((parting, k * j, many) for (parting, k, many), (_, j, _) in both)
                    self.assertEqual(faces.walk_numbers(n, faces.face_product(one, other)), wanted)

    def test_face_lots_by_lot_counts(self):
        for n in range(6):
            for c in oracles.compositions(n):
                counts = dict(lot_counts(single(c)))
                for parting, number, _ in faces.walk_numbers(n, faces.face_lot(c)):
                    sizes = tuple(sorted(map(len, parting), reverse=True))
                    self.assertEqual(number, counts[sizes])


class Times(unittest.TestCase):
    def test_great_sums_end_soon(self):
        start = time.process_time()
        every = [tuple((f, at + 1) for at, f in enumerate(FACES[n])) for n in (4, 5)]
        faces.face_product(every[0], every[0])
        faces.face_product(every[1], every[1][::4])
        faces.walk_table(4, every[0])
        faces.walk_numbers(5, every[1])
        self.assertLess(time.process_time() - start, SOON)


class ByName(unittest.TestCase):
    def test_all_arguments_by_name(self):
        face = ((0,), (1,))
        self.assertEqual(faces.all_faces(n=1), (((0,),),))
        self.assertEqual(faces.face_product(other=single(((0, 1),)), one=single(face)), single(face))
        self.assertEqual(faces.face_lot(composition=(2,)), single(((0, 1),)))
        self.assertEqual(faces.walk_table(one=single(face), n=2), ((1, 0), (1, 0)))
        self.assertEqual(faces.walk_numbers(one=single(face), n=2), ((face, 1, 1), (((0, 1),), 0, 1)))


if __name__ == "__main__":
    unittest.main()
