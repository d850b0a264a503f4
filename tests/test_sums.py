"""What a sum is [5], adding and pairing [6]."""

import unittest

import oracles
from shuffledcuts import sums
from shuffledcuts.errors import CutError, NotSum

GREAT = 10 ** 60
WRONG_THINGS = [(11,), (5, 6), (0,), (1, 0), (True,), (1, True), [1], [], "(1)", None, 3, {}, (1, (1,)), (10 ** 30, -1)]
WRONG_NUMBERS = [True, False, 0, "1", "", None, 1.0, (1,), [1]]
WRONG_PAIRS = [[(1,), 1], [(1,), (1,)], ((1,),), ((1,), 1, 1), (), (1,), "ab", None, 5, {(1,): 1, (2,): 1}]
GOOD = [
    (),
    (((), 1),),
    (((), -GREAT),),
    (((1,), 1), ((2,), -1)),
    (((), 3), ((1, 1), -2), ((1, 2), GREAT), ((2, 1), -GREAT), ((10,), 1)),
    (((1,) * 10, 5), ((1, 9), 5), ((10,), 5)),
]
SORTS = {
    "compositions": oracles.compositions_up_to(4),
    "listings": oracles.listings_up_to(3),
    "pairs": [(a, b) for a in oracles.compositions_up_to(2) for b in oracles.compositions_up_to(2)],
    "trees": [(), ((), ()), ((), ((), ())), (((), ()), ()), (((), ()), ((), ()))],
    "webs": [(0, ()), (2, ()), (2, ((0, 1),)), (3, ((0, 1), (1, 2)))],
}


def deep(depth):
    """A thing nested deeper than any sort of the document."""
    thing = ()
    for _ in range(depth):
        thing = (thing, ())
    return thing


class Breaches(unittest.TestCase):
    def check(self, value, rule, place):
        with self.subTest(value=value):
            self.assertEqual(sums.sum_breach(value), (rule, place))
            self.assertTrue(oracles.is_plain(sums.sum_breach(value)))
            with self.assertRaises(CutError) as caught:
                sums.check_sum(value)
            self.assertIs(type(caught.exception), NotSum)
            self.assertEqual((caught.exception.rule, caught.exception.place), (rule, place))

    def test_sums(self):
        for value in GOOD + oracles.sample_sums(oracles.compositions_up_to(6), 20, 12, 1):
            self.assertIsNone(sums.sum_breach(value))
            self.assertIs(sums.check_sum(value), value)

    def test_no_tuple(self):
        for value in [None, 0, 1, True, "", "0", [], [((1,), 1)], {}, {(1,): 1}, b"", 1.5]:
            self.check(value, "form", -1)

    def test_an_entry_that_is_no_pair(self):
        good = (((1,), 1), ((2,), 1), ((3,), 1))
        for entry in WRONG_PAIRS:
            for at in range(3):
                self.check(good[:at] + (entry,) + good[at + 1:], "form", -1)

    def test_a_wrong_thing(self):
        good = (((1,), 1), ((2,), 1), ((3,), 1))
        for thing in WRONG_THINGS:
            for at in range(3):
                self.check(good[:at] + ((thing, 1),) + good[at + 1:], "thing", at)
        self.check((((1,), 1), ((0,), 1), ([2], 1)), "thing", 1)

    def test_a_wrong_number(self):
        good = (((1,), 1), ((2,), 1), ((3,), 1))
        for number in WRONG_NUMBERS:
            for at in range(3):
                self.check(good[:at] + ((good[at][0], number),) + good[at + 1:], "number", at)
        self.check((((1,), 1), ((2,), 0), ((3,), None)), "number", 1)

    def test_a_wrong_sequence(self):
        self.check((((2,), 1), ((1,), 1)), "sequence", 1)
        self.check((((1,), 1), ((1,), 1)), "sequence", 1)
        self.check((((1,), 1), ((1,), -1)), "sequence", 1)
        self.check((((1,), 1), ((), 1)), "sequence", 1)
        self.check((((1,), 1), ((3,), 1), ((2,), 1), ((4,), 1)), "sequence", 2)
        self.check((((1,), 1), ((1, 1), 1), ((2,), 1), ((2,), 1)), "sequence", 3)
        self.check((((1,), 1), ((3,), 1), ((2,), 1), ((1,), 1)), "sequence", 2)

    def test_several_rules_broken(self):
        self.check((((2,), 0), ((1,), 1), ((0,), 1), [1, 2]), "form", -1)
        self.check((((2,), 0), ((1,), 1), ((0,), 1)), "thing", 2)
        self.check((((2,), 1), ((1,), 1), ((3,), 0)), "number", 2)
        self.check((((0,), 0), ((0,), 0)), "thing", 0)
        self.check((((2,), 1), ((1,), 0), (None, 1)), "thing", 2)
        self.check((((2,), 1), ((2,), True)), "number", 1)
        self.check((((2,), 1), ((3,), 1), ((1,), 1), ((9, 9), 1), ((1,), 0)), "thing", 3)
        self.check((((2,), 1), ((1,), 1), ((1, 1), True), ((4,), 0)), "number", 2)

    def test_a_list_is_left_as_it_is(self):
        value = [((1,), 1)]
        sums.sum_breach(value)
        self.assertEqual(value, [((1,), 1)])


class Adding(unittest.TestCase):
    def samples(self):
        for name, things in SORTS.items():
            found = [(), *oracles.sample_sums(things, 12, 6, name)]
            for one in found:
                for other in found:
                    yield one, other

    def test_plus(self):
        for one, other in self.samples():
            found = sums.plus(one, other)
            self.assertEqual(found, oracles.total(one + other))
            self.assertTrue(oracles.is_sum(found))

    def test_plus_of_numbers_that_cancel(self):
        self.assertEqual(sums.plus((((1,), 2), ((2,), 3)), (((1,), -2), ((2,), 1))), (((2,), 4),))
        for one, _ in self.samples():
            self.assertEqual(sums.plus(one, sums.times(-1, one)), ())

    def test_times(self):
        for one, _ in self.samples():
            self.assertEqual(sums.times(0, one), ())
            self.assertEqual(sums.times(1, one), one)
            for k in (-1, 2, -7, GREAT, -GREAT):
                found = sums.times(k, one)
                self.assertEqual(found, tuple((thing, k * j) for thing, j in one))
                self.assertTrue(oracles.is_sum(found))

    def test_pairing(self):
        for one, other in self.samples():
            wanted = sum(k * j for thing, k in one for facing, j in other if thing == facing)
            self.assertEqual(sums.pairing(one, other), wanted)
            self.assertIs(type(sums.pairing(one, other)), int)
        self.assertEqual(sums.pairing((((1,), 2), ((2,), 3)), (((2,), 5), ((3,), 7))), 15)
        self.assertEqual(sums.pairing((), (((1,), 2),)), 0)

    def test_things_nested_deep(self):
        one = ((deep(3), 1), (deep(30), 2))
        other = ((deep(30), 5), (deep(40), 7))
        self.assertEqual(sums.plus(one, other), ((deep(3), 1), (deep(30), 7), (deep(40), 7)))
        self.assertEqual(sums.pairing(one, other), 10)
        self.assertEqual(sums.times(2, one), ((deep(3), 2), (deep(30), 4)))


class Degrees(unittest.TestCase):
    def test_degree_part(self):
        one = (((), 4), ((1, 1), 2), ((1, 2), -1), ((2,), 3), ((3,), GREAT))
        self.assertEqual(sums.degree_part(one, 0), (((), 4),))
        self.assertEqual(sums.degree_part(one, 1), ())
        self.assertEqual(sums.degree_part(one, 2), (((1, 1), 2), ((2,), 3)))
        self.assertEqual(sums.degree_part(one, 3), (((1, 2), -1), ((3,), GREAT)))
        self.assertEqual(sums.degree_part(one, 10), ())
        self.assertEqual(sums.degree_part((), 0), ())
        self.assertTrue(oracles.is_plain(sums.degree_part(one, 2)))

    def test_degrees(self):
        self.assertEqual(sums.degrees(()), ())
        self.assertEqual(sums.degrees((((), 1),)), (0,))
        self.assertEqual(sums.degrees((((), 4), ((1, 1), 2), ((1, 9), -1), ((2,), 3), ((3,), 1))), (0, 2, 3, 10))
        self.assertTrue(oracles.is_plain(sums.degrees((((1,), 1),))))

    def test_a_sum_is_the_sum_of_its_parts(self):
        for one in oracles.sample_sums(oracles.compositions_up_to(6), 20, 12, 3):
            whole = ()
            for n in sums.degrees(one):
                part = sums.degree_part(one, n)
                self.assertEqual(sums.degrees(part), (n,))
                whole = sums.plus(whole, part)
            self.assertEqual(whole, one)


class ByName(unittest.TestCase):
    def test_all_arguments_by_name(self):
        one = (((1,), 2),)
        self.assertIsNone(sums.sum_breach(value=one))
        self.assertEqual(sums.check_sum(value=one), one)
        self.assertEqual(sums.plus(one=one, other=(((2,), 3),)), (((1,), 2), ((2,), 3)))
        self.assertEqual(sums.times(k=3, one=one), (((1,), 6),))
        self.assertEqual(sums.pairing(one=one, other=one), 4)
        self.assertEqual(sums.degree_part(one=one, n=1), one)
        self.assertEqual(sums.degrees(one=one), (1,))


if __name__ == "__main__":
    unittest.main()
