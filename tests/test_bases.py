"""The four ways to read a sum [7]."""

import unittest

import oracles
from shuffledcuts import bases, sums
from shuffledcuts.compositions import other_side

SMALL = oracles.compositions_up_to(6)
GREATEST = [(10,), (1,) * 10, (3, 4, 3), (1, 9), (2, 2, 2, 2, 2)]
SINGLES = [oracles.single(c) for c in SMALL + GREATEST]
SAMPLES = oracles.sample_sums(oracles.compositions_up_to(10), 25, 12, "bases")
SUMS = [(), (((), 1),), (((), -5), ((1, 1), 3)), *SINGLES, *SAMPLES]


def spread(one, finer, base):
    """Each composition replaced by all finer or all coarser ones, with base to the power by which the lengths differ."""
    terms = []
    for old, k in one:
        for new in oracles.compositions(sum(old)):
            many, few = (new, old) if finer else (old, new)
            if oracles.places(many) >= oracles.places(few):
                terms.append((new, k * base ** (len(many) - len(few))))
    return oracles.total(terms)


def by_other_side(one):
    return oracles.total((other_side(thing), k) for thing, k in one)


class Bases(unittest.TestCase):
    def test_examples(self):
        self.assertEqual(bases.plain_of_runs((((2, 1), 1),)), (((1, 1, 1), 1), ((2, 1), 1)))
        self.assertEqual(bases.runs_of_plain((((2, 1), 1),)), (((1, 1, 1), -1), ((2, 1), 1)))
        self.assertEqual(bases.ribbons_of_wholes((((2, 1), 1),)), (((2, 1), 1), ((3,), 1)))
        self.assertEqual(bases.wholes_of_ribbons((((2, 1), 1),)), (((2, 1), 1), ((3,), -1)))

    def test_each_by_its_rule(self):
        rules = [(bases.plain_of_runs, True, 1), (bases.runs_of_plain, True, -1),
                 (bases.ribbons_of_wholes, False, 1), (bases.wholes_of_ribbons, False, -1)]
        for lead, finer, base in rules:
            for one in SUMS:
                found = lead(one)
                self.assertEqual(found, spread(one, finer, base))
                self.assertTrue(oracles.is_sum(found))

    def test_each_undoes_the_other_one(self):
        pairs = [(bases.plain_of_runs, bases.runs_of_plain), (bases.ribbons_of_wholes, bases.wholes_of_ribbons)]
        for lead, back in pairs:
            for one in SUMS:
                self.assertEqual(back(lead(one)), one)
                self.assertEqual(lead(back(one)), one)

    def test_nothing_and_the_empty_composition(self):
        empty_told = (((), 7),)
        for lead in (bases.plain_of_runs, bases.runs_of_plain, bases.ribbons_of_wholes, bases.wholes_of_ribbons):
            self.assertEqual(lead(()), ())
            self.assertEqual(lead(empty_told), empty_told)

    def test_terms_that_cancel(self):
        self.assertEqual(bases.plain_of_runs((((1, 1), -1), ((2,), 1))), (((2,), 1),))
        self.assertEqual(bases.runs_of_plain((((1, 1), 1), ((2,), 1))), (((2,), 1),))
        self.assertEqual(bases.ribbons_of_wholes((((1, 1), 1), ((2,), -1))), (((1, 1), 1),))
        self.assertEqual(bases.wholes_of_ribbons((((1, 1), 1), ((2,), 1))), (((1, 1), 1),))

    def test_plain_of_runs_done_several_times(self):
        for one in [oracles.single(c) for c in SMALL] + SAMPLES[:6]:
            found = one
            for k in range(1, 5):
                found = bases.plain_of_runs(found)
                self.assertEqual(found, spread(one, True, k))

    def test_ribbons_of_wholes_by_the_other_side(self):
        for one in SUMS:
            self.assertEqual(bases.ribbons_of_wholes(one), by_other_side(bases.plain_of_runs(by_other_side(one))))

    def test_the_pairing_of_a_plain_and_a_whole_sum(self):
        rows = [oracles.single(c) for c in oracles.compositions_up_to(4)] + SAMPLES
        for plain in rows:
            for whole in rows:
                wanted = sums.pairing(bases.runs_of_plain(plain), bases.ribbons_of_wholes(whole))
                self.assertEqual(sums.pairing(plain, whole), wanted)

    def test_all_arguments_by_name(self):
        one = (((2,), 1),)
        self.assertEqual(bases.plain_of_runs(one=one), (((1, 1), 1), ((2,), 1)))
        self.assertEqual(bases.runs_of_plain(one=one), (((1, 1), -1), ((2,), 1)))
        self.assertEqual(bases.ribbons_of_wholes(one=one), one)
        self.assertEqual(bases.wholes_of_ribbons(one=one), one)


if __name__ == "__main__":
    unittest.main()
