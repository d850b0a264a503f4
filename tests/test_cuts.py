"""Cut sums of the five sorts [12], sums over pairs, their pairings and their products [13]."""

import unittest

import oracles
from shuffledcuts import cuts
from shuffledcuts.bases import plain_of_runs, ribbons_of_wholes, wholes_of_ribbons
from shuffledcuts.errors import CutError, TooMany
from shuffledcuts.listings import back_listing, listing_cuts, shuffled
from shuffledcuts.products import behind, overlaid, ribbon_product, run_product
from shuffledcuts.sums import pairing, plus, times

CUTS = {"plain": cuts.plain_cuts, "runs": cuts.run_cuts, "wholes": cuts.whole_cuts, "ribbons": cuts.ribbon_cuts,
        "listings": listing_cuts}
PRODUCTS = {"plain": overlaid, "runs": run_product, "wholes": behind, "ribbons": ribbon_product, "listings": shuffled}
OF_TEN = [(10,), (3, 7), (4, 4, 2), (2, 2, 2, 2, 2), (1, 2, 1, 2, 1, 2, 1), (1,) * 10, (1, 1, 5, 1, 1, 1)]


def single(thing):
    return oracles.single(thing)


def samples(sort, number=4, count=8, most=6):
    """Sums of several terms with numbers of either sign; the first two are the sum of nothing and () told."""
    things = oracles.things_up_to(number, sort)
    return [(), single(()), (((), -3),), *oracles.sample_sums(things, count, most, "cuts " + sort)]


def pair_samples(sort, number, count, most):
    """Sums over pairs of things, by themselves and not as cuts of a sum."""
    things = oracles.things_up_to(number, sort)
    pairs = [(a, b) for a in things for b in things]
    return [(), single(((), ())), *oracles.sample_sums(pairs, count, most, "pairs " + sort)]


def first_cut_again(one, sort):
    return oracles.total(((a, b, c), k * j) for (x, c), k in one for (a, b), j in CUTS[sort](single(x)))


def second_cut_again(one, sort):
    return oracles.total(((a, b, c), k * j) for (a, x), k in one for (b, c), j in CUTS[sort](single(x)))


class Cuts(unittest.TestCase):
    def test_examples(self):
        self.assertEqual(cuts.plain_cuts(single((1, 2))), ((((), (1, 2)), 1), (((1,), (2,)), 1), (((1, 2), ()), 1)))
        self.assertEqual(cuts.run_cuts(single((1, 2))),
                         ((((), (1, 2)), 1), (((1,), (2,)), 1), (((1, 1), (1,)), 1), (((1, 2), ()), 1)))
        self.assertEqual(cuts.whole_cuts(single((2, 1))),
                         ((((), (2, 1)), 1), (((1,), (1, 1)), 1), (((1,), (2,)), 1), (((1, 1), (1,)), 1),
                          (((2,), (1,)), 1), (((2, 1), ()), 1)))
        self.assertEqual(cuts.ribbon_cuts(single((1, 1))), ((((), (1, 1)), 1), (((1,), (1,)), 1), (((1, 1), ()), 1)))
        self.assertEqual(cuts.ribbon_cuts(single((2, 1))),
                         ((((), (2, 1)), 1), (((1,), (1, 1)), 1), (((1,), (2,)), 1), (((1, 1), (1,)), 1),
                          (((2,), (1,)), 1), (((2, 1), ()), 1)))

    def test_nothing_and_the_empty_thing(self):
        for cut in CUTS.values():
            self.assertEqual(cut(()), ())
            self.assertEqual(cut((((), 5),)), ((((), ()), 5),))

    def test_single_things_by_the_rules(self):
        for sort, cut in CUTS.items():
            for thing in oracles.things_up_to(6 if sort != "ribbons" else 5, sort):
                found = cut(single(thing))
                self.assertEqual(found, oracles.cut_sum(single(thing), sort), (sort, thing))
                self.assertTrue(oracles.is_sum(found))

    def test_single_compositions_of_ten(self):
        for sort in ("plain", "runs", "wholes", "ribbons"):
            for thing in OF_TEN:
                if sort != "ribbons" or len(thing) < 6:
                    self.assertEqual(CUTS[sort](single(thing)), oracles.cut_sum(single(thing), sort), (sort, thing))

    def test_ribbons_of_ten_ones(self):
        wanted = [(((1,) * i, (1,) * (10 - i)), 1) for i in range(11)]
        self.assertEqual(cuts.ribbon_cuts(single((1,) * 10)), tuple(wanted))

    def test_sums(self):
        for sort, cut in CUTS.items():
            for one in samples(sort) + oracles.sample_sums(oracles.things_up_to(5, sort), 3, 12, "great " + sort):
                found = cut(one)
                self.assertEqual(found, oracles.cut_sum(one, sort))
                self.assertTrue(oracles.is_sum(found))

    def test_additive(self):
        for sort, cut in CUTS.items():
            rows = samples(sort)
            for one, other in zip(rows, rows[1:]):
                self.assertEqual(cut(plus(one, times(-4, other))), plus(cut(one), times(-4, cut(other))))

    def test_terms_that_cancel(self):
        self.assertEqual(cuts.plain_cuts((((1, 2), 1), ((1, 3), -1))),
                         ((((), (1, 2)), 1), (((), (1, 3)), -1), (((1,), (2,)), 1), (((1,), (3,)), -1),
                          (((1, 2), ()), 1), (((1, 3), ()), -1)))
        self.assertEqual(cuts.run_cuts((((1, 2), 1), ((3,), -1))),
                         ((((), (1, 2)), 1), (((), (3,)), -1), (((1, 1), (1,)), 1), (((1, 2), ()), 1),
                          (((2,), (1,)), -1), (((3,), ()), -1)))
        self.assertEqual(cuts.whole_cuts((((1, 2), 1), ((2, 1), -1))),
                         ((((), (1, 2)), 1), (((), (2, 1)), -1), (((1, 2), ()), 1), (((2, 1), ()), -1)))
        self.assertEqual(cuts.ribbon_cuts((((1, 2), 1), ((2, 1), -1))),
                         ((((), (1, 2)), 1), (((), (2, 1)), -1), (((1, 2), ()), 1), (((2, 1), ()), -1)))

    def test_one_run_cut_for_each_first_number(self):
        for thing in oracles.compositions_up_to(7) + OF_TEN:
            found = cuts.run_cuts(single(thing))
            self.assertEqual(sorted(sum(first) for (first, _), _ in found), list(range(sum(thing) + 1)))
            self.assertEqual({k for _, k in found}, {1})

    def test_whole_cuts_count_alike_partings(self):
        self.assertEqual(cuts.whole_cuts(single((1, 1))), ((((), (1, 1)), 1), (((1,), (1,)), 2), (((1, 1), ()), 1)))
        for i in range(11):
            found = dict(cuts.whole_cuts(single((1,) * 10)))
            self.assertEqual(found[(1,) * i, (1,) * (10 - i)], oracles.choose(10, i))

    def test_ribbon_cuts_told_by_runs(self):
        for n in range(6):
            for thing in oracles.compositions(n):
                wanted = oracles.total(((a, b), oracles.run_pair(a, b).count(thing)) for i in range(n + 1)
                                       for a in oracles.compositions(i) for b in oracles.compositions(n - i))
                self.assertEqual(cuts.ribbon_cuts(single(thing)), wanted)

    def test_ribbon_cuts_are_whole_cuts_told_by_ribbons(self):
        for one in samples("ribbons") + [single(thing) for thing in OF_TEN]:
            pairs = cuts.whole_cuts(one)
            firsts = oracles.total(((x, b), k) for (a, b), k in pairs for x in oracles.coarser(a))
            wanted = oracles.total(((a, y), k) for (a, b), k in firsts for y in oracles.coarser(b))
            self.assertEqual(cuts.ribbon_cuts(ribbons_of_wholes(one)), wanted)

    def test_first_and_second_things_cut_again(self):
        for sort, cut in CUTS.items():
            for one in samples(sort) + [single(thing) for thing in oracles.things_up_to(5, sort)]:
                found = cut(one)
                self.assertEqual(first_cut_again(found, sort), second_cut_again(found, sort))
        for sort in ("plain", "runs", "wholes", "ribbons"):
            for thing in [(10,), (3, 7), (4, 4, 2), (1, 6, 1)]:
                found = CUTS[sort](single(thing))
                self.assertEqual(first_cut_again(found, sort), second_cut_again(found, sort))


class Paired(unittest.TestCase):
    def test_all_pairs(self):
        self.assertEqual(cuts.paired((((1,), 2), ((1, 1), -1)), (((), 3), ((2,), 5))),
                         ((((1,), ()), 6), (((1,), (2,)), 10), (((1, 1), ()), -3), (((1, 1), (2,)), -5)))
        for sort in CUTS:
            for one in samples(sort):
                for other in samples(sort):
                    found = cuts.paired(one, other)
                    self.assertEqual(found, oracles.total(((a, b), k * j) for a, k in one for b, j in other))
                    self.assertTrue(oracles.is_sum(found))

    def test_nothing_on_either_side(self):
        for one in samples("plain") + samples("listings"):
            self.assertEqual(cuts.paired(one, ()), ())
            self.assertEqual(cuts.paired((), one), ())


class Pairings(unittest.TestCase):
    def sums(self, sort):
        """Sums of one number, so that the pairings are seldom 0, and mixed ones."""
        sums = samples(sort, 3, 4, 8)
        for n in range(1, 4):
            things = oracles.listings(n) if sort == "listings" else oracles.compositions(n)
            sums.extend(oracles.sample_sums(things, 2, 6, f"pairings {sort} {n}"))
        return sums

    def great_sums(self, sort):
        found = []
        for n in range(2, 6):
            things = oracles.listings(n) if sort == "listings" else oracles.compositions(n)
            found.extend(oracles.sample_sums(things, 3, len(things), f"great pairings {sort} {n}"))
        return found

    def check_overlaid_like(self, sort, dual):
        for f in self.sums(sort):
            for g in self.sums(sort):
                product, pairs = PRODUCTS[sort](f, g), cuts.paired(f, g)
                for h in self.great_sums(dual):
                    self.assertEqual(pairing(product, h), pairing(pairs, CUTS[dual](h)))

    def test_products_of_plain_and_run_sums(self):
        self.check_overlaid_like("plain", "wholes")
        self.check_overlaid_like("runs", "ribbons")

    def test_products_of_whole_and_ribbon_sums(self):
        self.check_overlaid_like("wholes", "plain")
        self.check_overlaid_like("ribbons", "runs")

    def test_they_are_not_all_nothing(self):
        f, g, h = single((1,)), single((2,)), single((2, 1))
        self.assertEqual(pairing(overlaid(f, g), h), 1)
        self.assertEqual(pairing(cuts.paired(f, g), cuts.whole_cuts(h)), 1)

    def test_listings(self):
        for f in self.sums("listings"):
            for g in self.sums("listings"):
                product, pairs = shuffled(f, g), cuts.paired(f, g)
                for h in self.great_sums("listings"):
                    back = oracles.total((back_listing(w), k) for w, k in h)
                    both = oracles.total(((back_listing(a), back_listing(b)), k) for (a, b), k in listing_cuts(h))
                    self.assertEqual(pairing(product, back), pairing(pairs, both))

    def test_runs_and_ribbons_are_paired_like_plain_sums_and_wholes(self):
        for f in self.sums("runs"):
            for h in self.great_sums("ribbons"):
                self.assertEqual(pairing(plain_of_runs(f), wholes_of_ribbons(h)), pairing(f, h))


class CutProduct(unittest.TestCase):
    def check_too_many(self, one, other, product, limit):
        with self.assertRaises(CutError) as caught:
            cuts.cut_product(one, other, product)
        self.assertIs(type(caught.exception), TooMany)
        self.assertEqual(caught.exception.limit, limit)

    def test_examples(self):
        one, other = single(((1,), (2,))), single(((1,), (1,)))
        self.assertEqual(cuts.cut_product(one, other, "wholes"), single(((1, 1), (2, 1))))
        self.assertEqual(cuts.cut_product(other, one, "wholes"), single(((1, 1), (1, 2))))
        self.assertEqual(cuts.cut_product(one, other, "ribbons"),
                         ((((1, 1), (2, 1)), 1), (((1, 1), (3,)), 1), (((2,), (2, 1)), 1), (((2,), (3,)), 1)))
        self.assertEqual(cuts.cut_product(single(((0,), ())), single(((0,), (0, 1))), "listings"),
                         ((((0, 1), (0, 1)), 1), (((1, 0), (0, 1)), 1)))
        self.assertEqual(dict(cuts.cut_product(other, other, "plain")),
                         {((1, 1), (1, 1)): 4, ((1, 1), (2,)): 2, ((2,), (1, 1)): 2, ((2,), (2,)): 1})
        self.assertEqual(dict(cuts.cut_product(other, other, "runs")),
                         {((1, 1), (1, 1)): 1, ((1, 1), (2,)): 1, ((2,), (1, 1)): 1, ((2,), (2,)): 1})

    def test_first_things_by_first_ones_and_second_by_second_ones(self):
        for sort, rule in oracles.PRODUCTS.items():
            rows = pair_samples(sort, 2, 5, 5)
            for one in rows:
                for other in rows:
                    terms = [((x, y), k * j) for (a, b), k in one for (c, d), j in other
                             for x in rule(a, c) for y in rule(b, d)]
                    found = cuts.cut_product(one, other, sort)
                    self.assertEqual(found, oracles.total(terms))
                    self.assertTrue(oracles.is_sum(found))

    def test_additive_in_both(self):
        for sort in PRODUCTS:
            rows = pair_samples(sort, 2, 4, 4)
            for one, other, third in zip(rows, rows[1:], rows[2:]):
                self.assertEqual(cuts.cut_product(plus(one, times(-2, other)), third, sort),
                                 plus(cuts.cut_product(one, third, sort),
                                      times(-2, cuts.cut_product(other, third, sort))))
                self.assertEqual(cuts.cut_product(third, plus(one, times(5, other)), sort),
                                 plus(cuts.cut_product(third, one, sort),
                                      times(5, cuts.cut_product(third, other, sort))))

    def test_nothing_and_the_pair_of_empty_things(self):
        for sort in PRODUCTS:
            for one in pair_samples(sort, 3, 5, 6):
                self.assertEqual(cuts.cut_product(one, (), sort), ())
                self.assertEqual(cuts.cut_product((), one, sort), ())
                self.assertEqual(cuts.cut_product(one, single(((), ())), sort), one)
                self.assertEqual(cuts.cut_product(single(((), ())), one, sort), one)

    def test_cuts_of_a_product_are_the_products_of_the_cuts(self):
        for sort, cut in CUTS.items():
            rows = samples(sort, 3, 5, 6)
            for one in rows:
                for other in rows:
                    self.assertEqual(cut(PRODUCTS[sort](one, other)), cuts.cut_product(cut(one), cut(other), sort))
            things = oracles.things_up_to(3, sort)
            for a in things:
                for b in things:
                    self.assertEqual(cut(PRODUCTS[sort](single(a), single(b))),
                                     cuts.cut_product(cut(single(a)), cut(single(b)), sort))

    def test_cuts_of_great_products(self):
        for sort in ("plain", "runs", "wholes", "ribbons"):
            for a, b in [((5,), (2, 3)), ((1, 1, 1), (2, 4)), ((1, 8), (1,)), ((2, 2, 1), (1, 2, 2))]:
                cut = CUTS[sort]
                self.assertEqual(cut(PRODUCTS[sort](single(a), single(b))),
                                 cuts.cut_product(cut(single(a)), cut(single(b)), sort))

    def test_above_ten(self):
        for sort in ("plain", "runs", "wholes", "ribbons"):
            self.check_too_many(single(((5,), ())), single(((1, 5), ())), sort, 10)
            self.check_too_many(single(((), (5,))), single(((), (1, 5))), sort, 10)
            self.check_too_many(single(((10,), (1,))), single(((), (10,))), sort, 10)
            # The great things stand amid small ones, and fit all but one of the things beside them.
            one = ((((), ()), 1), (((1,), (9,)), 2), (((2,), ()), 1))
            other = ((((), (1,)), 1), (((1,), (2,)), 2), (((1, 1), ()), 1))
            self.check_too_many(one, other, sort, 10)
            self.check_too_many(other, one, sort, 10)
            one = ((((), ()), 1), (((1, 8), (1,)), 2), (((2,), ()), 1))
            other = ((((), (1,)), 1), (((2,), (2,)), -2), (((3,), ()), 1))
            self.check_too_many(one, other, sort, 10)
            self.check_too_many(other, one, sort, 10)

    def test_just_ten_is_let(self):
        for sort in ("wholes", "ribbons", "runs", "plain"):
            one, other = single(((4, 1), (7,))), single(((2, 3), (3,)))
            found = cuts.cut_product(one, other, sort)
            self.assertTrue(found)
            self.assertEqual({(sum(a), sum(b)) for (a, b), _ in found}, {(10, 10)})
        self.assertEqual(cuts.cut_product(single(((10,), ())), single(((), (1, 9))), "plain"), single(((10,), (1, 9))))

    def test_listings_above_six(self):
        four, three = (0, 2, 1, 3), (2, 0, 1)
        self.check_too_many(single((four, ())), single((three, ())), "listings", 6)
        self.check_too_many(single(((), three)), single(((), four)), "listings", 6)
        self.check_too_many(((((), ()), 1), (((0,), four), 2), (((0, 1), ()), 1)),
                            ((((), (0,)), 1), (((0,), three), 2), (((1, 0), ()), 1)), "listings", 6)

    def test_listings_of_just_six_are_let(self):
        found = cuts.cut_product(single(((0, 1, 2), (1, 0))), single(((2, 1, 0), (0, 1, 2, 3))), "listings")
        self.assertEqual(len(found), 20 * 15)
        self.assertEqual({(len(a), len(b)) for (a, b), _ in found}, {(6, 6)})

    def test_nothing_on_one_side_raises_nothing(self):
        for sort in ("plain", "runs", "wholes", "ribbons"):
            self.assertEqual(cuts.cut_product(single(((10,), (10,))), (), sort), ())
        self.assertEqual(cuts.cut_product((), single(((5, 4, 3, 2, 1, 0), ())), "listings"), ())


class ByName(unittest.TestCase):
    def test_all_arguments_by_name(self):
        self.assertEqual(cuts.plain_cuts(one=single((2,))), ((((), (2,)), 1), (((2,), ()), 1)))
        self.assertEqual(cuts.run_cuts(one=single((2,))), ((((), (2,)), 1), (((1,), (1,)), 1), (((2,), ()), 1)))
        self.assertEqual(cuts.whole_cuts(one=single((2,))), ((((), (2,)), 1), (((1,), (1,)), 1), (((2,), ()), 1)))
        self.assertEqual(cuts.ribbon_cuts(one=single((2,))), ((((), (2,)), 1), (((1,), (1,)), 1), (((2,), ()), 1)))
        self.assertEqual(cuts.paired(other=single((1,)), one=single((2,))), single(((2,), (1,))))
        self.assertEqual(cuts.cut_product(product="wholes", other=single(((1,), (2,))), one=single(((3,), (4,)))),
                         single(((3, 1), (4, 2))))


if __name__ == "__main__":
    unittest.main()
