"""The names, arguments and places of the interface, what all functions have in common, and the errors [1], [2]."""

import copy
import importlib
import inspect
import unittest

import oracles
from shuffledcuts import errors

PLAIN = (((), 2), ((1, 2), -1), ((3,), 4))
OTHER = (((1,), 3), ((1, 1), -2))
OF_FOUR = (((1, 3), 1), ((2, 2), -5))
LISTINGS = (((0, 1), 1), ((1, 0), -3))
PAIRS = ((((), (1,)), 2), (((1,), ()), -1))
ORDER = (3, ((0, 2), (1, 2)))
WEB = (3, ((0, 1), (1, 2)))
TREE = (((), ()), ((), ()))
TREES = (((((), ()), ()), 2), ((((), ()), ((), ())), -1))
FACES = ((((0,), (1,)), 2), (((0, 1),), -1))

# For each function of the interface its arguments, in sequence, with valid values for a call.
FUNCTIONS = {
    "compositions": {
        "check_composition": {"value": (1, 2)}, "all_compositions": {"n": 3}, "places_of": {"composition": (1, 2)},
        "of_places": {"n": 4, "places": (1, 3)}, "is_finer": {"one": (1, 2), "other": (3,)},
        "finer_ones": {"composition": (1, 2)}, "coarser_ones": {"composition": (1, 2)},
        "turned": {"composition": (1, 2)}, "other_side": {"composition": (1, 2)}, "across": {"composition": (1, 2)},
        "runs_of": {"listing": (1, 0, 2)}, "count_by_runs": {"composition": (1, 2)}},
    "sums": {
        "sum_breach": {"value": PLAIN}, "check_sum": {"value": PLAIN}, "plus": {"one": PLAIN, "other": OTHER},
        "times": {"k": -2, "one": PLAIN}, "pairing": {"one": PLAIN, "other": OTHER},
        "degree_part": {"one": PLAIN, "n": 3}, "degrees": {"one": PLAIN}},
    "bases": {
        "plain_of_runs": {"one": PLAIN}, "runs_of_plain": {"one": PLAIN}, "ribbons_of_wholes": {"one": PLAIN},
        "wholes_of_ribbons": {"one": PLAIN}},
    "texts": {"written": {"one": PLAIN}, "read_sum": {"text": "2() - (1 2)"}},
    "products": {
        "overlaid": {"one": PLAIN, "other": OTHER}, "run_product": {"one": PLAIN, "other": OTHER},
        "behind": {"one": PLAIN, "other": OTHER}, "ribbon_product": {"one": PLAIN, "other": OTHER}},
    "listings": {
        "shuffled": {"one": LISTINGS, "other": LISTINGS}, "run_sum": {"one": LISTINGS},
        "listing_cuts": {"one": LISTINGS}, "back_listing": {"listing": (1, 2, 0)},
        "then": {"one": LISTINGS, "other": LISTINGS}},
    "cuts": {
        "plain_cuts": {"one": PLAIN}, "run_cuts": {"one": PLAIN}, "whole_cuts": {"one": PLAIN},
        "ribbon_cuts": {"one": PLAIN}, "paired": {"one": PLAIN, "other": OTHER},
        "cut_product": {"one": PAIRS, "other": PAIRS, "product": "plain"}},
    "turns": {
        "turned_back": {"one": PLAIN, "sort": "runs"}, "turned_by_depths": {"one": PLAIN, "sort": "wholes"},
        "turned_short": {"one": PLAIN, "sort": "ribbons"}},
    "lots": {
        "wide_lot": {"composition": (1, 2)}, "narrow_lot": {"composition": (1, 2)},
        "lot_product": {"one": OF_FOUR, "other": OF_FOUR}, "narrow_product": {"one": OF_FOUR, "other": OF_FOUR},
        "lot_counts": {"one": OF_FOUR}},
    "shares": {
        "rising_row": {"n": 3}, "rising_share": {"n": 3, "k": 2}, "shuffle_row": {"n": 3, "a": 2},
        "runs_counts": {"n": 4}},
    "orders": {
        "check_order": {"value": ORDER}, "order_of": {"n": 3, "pairs": ((1, 2), (0, 1))}, "rows_of": {"order": ORDER},
        "row_count": {"order": ORDER}, "lower_lots": {"order": ORDER}, "part_order": {"order": ORDER, "things": (0, 2)},
        "beside_order": {"one": ORDER, "other": ORDER}, "below_all": {"one": ORDER, "other": ORDER},
        "upside_down": {"order": ORDER}, "swapped": {"order": ORDER}},
    "fillings": {
        "order_sum": {"order": ORDER}, "strict_sum": {"order": ORDER}, "fillings": {"order": ORDER, "m": 4},
        "filling_row": {"order": ORDER}},
    "webs": {
        "check_web": {"value": WEB}, "web_sum": {"web": WEB}, "colourings": {"web": WEB, "m": 4},
        "colour_row": {"web": WEB}, "beside_web": {"one": WEB, "other": WEB},
        "part_web": {"web": WEB, "places": (0, 1)}, "one_ways": {"web": WEB}},
    "flats": {
        "flats": {"web": WEB}, "squeezed": {"web": WEB, "flat": ((0, 1),)}, "web_turned_back": {"web": WEB},
        "web_by_depths": {"web": WEB}, "web_orders": {"web": WEB}},
    "judges": {
        "told_listings": {"one": LISTINGS, "judge": "both"}, "told_orders": {"order": ORDER, "judge": "falling"},
        "told_webs": {"web": WEB, "judge": "tieless"}, "peaks_of": {"composition": (2, 2)},
        "peak_sum": {"n": 4, "peaks": (2,)}},
    "trees": {
        "check_tree": {"value": TREE}, "all_trees": {"n": 3}, "tree_of": {"listing": (1, 0, 2)},
        "tree_lot": {"tree": TREE}, "tree_sum": {"tree": TREE}, "mirror": {"tree": TREE}, "tree_order": {"tree": TREE}},
    "growing": {
        "is_up_to": {"one": TREE, "other": TREE}, "trees_between": {"one": TREE, "other": TREE},
        "over": {"one": TREE, "other": TREE}, "under": {"one": TREE, "other": TREE},
        "tree_product": {"one": TREES, "other": TREES}, "tree_cuts": {"one": TREES}, "tree_turned_back": {"one": TREES},
        "lots_of_trees": {"one": TREES}, "trees_of_lots": {"one": (((1, 0, 2), 3), ((1, 2, 0), 3))}},
    "necklaces": {
        "plain_necklaces": {"n": 3, "most": 2}, "plain_count": {"n": 6, "most": 10}, "rounds_of": {"listing": (1, 0, 2)},
        "round_sum": {"partition": (2, 1)}, "necklace_sum": {"partition": (2, 1)}, "is_even": {"one": PLAIN}},
    "firsts": {
        "is_first": {"composition": (1, 2)}, "firsts": {"n": 4}, "first_parts": {"composition": (2, 1)},
        "mixture_of": {"one": PLAIN}, "plain_of_mixture": {"mixture": ((((2,), (1,)), (1, 2)), (((3,),), (-1, 3)))}},
    "faces": {
        "all_faces": {"n": 2}, "face_product": {"one": FACES, "other": FACES}, "face_lot": {"composition": (1, 2)},
        "walk_table": {"n": 2, "one": FACES}, "walk_numbers": {"n": 2, "one": FACES}},
    "worths": {"worth": {"one": PLAIN, "row": ((1, 2), (0, 1), (-2, 3))}, "worth_at": {"one": PLAIN, "m": -3}},
}

ERRORS = {
    "NotComposition": {"place": -1}, "NotSum": {"rule": "form", "place": -1}, "NotText": {"place": 3},
    "TooMany": {"limit": 10}, "NotShort": {}, "NotFit": {}, "NotOrder": {"rule": "chain"}, "NotWeb": {},
    "NotTree": {},
}

TEN, SIX = (((10,), 1),), (((0, 1, 2, 3, 4, 5), 1),)
ONE, LISTED, LEAN = (((1,), 1),), (((0,), 1),), (((), ()), ())
TALL = (((LEAN, ()), ()), ())
# Calls that raise, and what: at least one for each function that raises anything.
RAISED = [
    ("compositions", "check_composition", {"value": (1, 0)}, "NotComposition", {"place": 1}),
    ("sums", "check_sum", {"value": (((1,), 0),)}, "NotSum", {"rule": "number", "place": 0}),
    ("texts", "read_sum", {"text": "(1) +"}, "NotText", {"place": 5}),
    ("products", "overlaid", {"one": TEN, "other": ONE}, "TooMany", {"limit": 10}),
    ("products", "run_product", {"one": TEN, "other": ONE}, "TooMany", {"limit": 10}),
    ("products", "behind", {"one": ONE, "other": TEN}, "TooMany", {"limit": 10}),
    ("products", "ribbon_product", {"one": ONE, "other": TEN}, "TooMany", {"limit": 10}),
    ("listings", "shuffled", {"one": SIX, "other": LISTED}, "TooMany", {"limit": 6}),
    ("listings", "then", {"one": SIX, "other": LISTED}, "NotFit", {}),
    ("cuts", "cut_product", {"one": ((((10,), ()), 1),), "other": ((((1,), ()), 1),), "product": "runs"},
     "TooMany", {"limit": 10}),
    ("turns", "turned_back", {"one": SIX, "sort": "listings"}, "TooMany", {"limit": 5}),
    ("turns", "turned_by_depths", {"one": SIX, "sort": "listings"}, "TooMany", {"limit": 5}),
    ("turns", "turned_by_depths", {"one": TEN, "sort": "ribbons"}, "TooMany", {"limit": 8}),
    ("turns", "turned_short", {"one": LISTED, "sort": "listings"}, "NotShort", {}),
    ("lots", "wide_lot", {"composition": (7,)}, "TooMany", {"limit": 6}),
    ("lots", "narrow_lot", {"composition": (7,)}, "TooMany", {"limit": 6}),
    ("lots", "lot_product", {"one": (((1,) * 8, 1),), "other": (((1,) * 8, 1),)}, "TooMany", {"limit": 10000}),
    ("lots", "narrow_product", {"one": (((1,) * 8, 1),), "other": (((1,) * 8, 1),)}, "TooMany", {"limit": 10000}),
    ("orders", "check_order", {"value": (3, ((0, 1), (1, 2)))}, "NotOrder", {"rule": "chain"}),
    ("orders", "order_of", {"n": 1, "pairs": ((0, 0),)}, "NotOrder", {"rule": "chain"}),
    ("orders", "beside_order", {"one": (4, ()), "other": (4, ())}, "TooMany", {"limit": 7}),
    ("orders", "below_all", {"one": (4, ()), "other": (4, ())}, "TooMany", {"limit": 7}),
    ("webs", "check_web", {"value": (2, ((1, 0),))}, "NotWeb", {}),
    ("webs", "beside_web", {"one": (4, ()), "other": (4, ())}, "TooMany", {"limit": 7}),
    ("trees", "check_tree", {"value": ((), 0)}, "NotTree", {}),
    ("growing", "over", {"one": TALL, "other": LEAN}, "TooMany", {"limit": 6}),
    ("growing", "under", {"one": TALL, "other": LEAN}, "TooMany", {"limit": 6}),
    ("growing", "tree_product", {"one": ((TALL, 1),), "other": ((LEAN, 1),)}, "TooMany", {"limit": 6}),
    ("necklaces", "round_sum", {"partition": (4, 3)}, "TooMany", {"limit": 6}),
    ("necklaces", "necklace_sum", {"partition": (4, 3)}, "TooMany", {"limit": 6}),
    ("firsts", "mixture_of", {"one": TEN}, "TooMany", {"limit": 8}),
    ("firsts", "plain_of_mixture", {"mixture": ((((10,), (1,)), (1, 1)),)}, "TooMany", {"limit": 10}),
    ("faces", "face_product", {"one": ((((0,),), 1),), "other": ((((0, 1),), 1),)}, "NotFit", {}),
]


def found(module, name):
    return getattr(importlib.import_module("shuffledcuts." + module), name)


def listed():
    return [(module, name, arguments) for module, functions in FUNCTIONS.items()
            for name, arguments in functions.items()]


class Interface(unittest.TestCase):
    def test_functions_stand_in_their_files_with_their_arguments(self):
        for module, name, arguments in listed():
            with self.subTest(function=name):
                function = found(module, name)
                self.assertTrue(inspect.isfunction(function))
                self.assertEqual((function.__module__, function.__name__), ("shuffledcuts." + module, name))
                parameters = inspect.signature(function).parameters
                self.assertEqual(list(parameters), list(arguments))
                for parameter in parameters.values():
                    self.assertEqual(parameter.kind, parameter.POSITIONAL_OR_KEYWORD)

    def test_all_functions_by_name(self):
        for module, name, arguments in listed():
            with self.subTest(function=name):
                told = copy.deepcopy(arguments)
                backward = dict(reversed(list(told.items())))
                value = found(module, name)(**backward)
                self.assertEqual(value, found(module, name)(*arguments.values()))
                self.assertEqual(told, arguments)
                self.assertEqual(repr(told), repr(arguments))

    def test_values_are_plain(self):
        for module, name, arguments in listed():
            with self.subTest(function=name):
                self.assertTrue(oracles.is_plain(found(module, name)(**arguments)))

    def test_a_second_call_tells_the_same(self):
        first = {(module, name): found(module, name)(**arguments) for module, name, arguments in listed()}
        for module, name, arguments in reversed(listed()):
            with self.subTest(function=name):
                self.assertEqual(found(module, name)(**arguments), first[module, name])


class Errors(unittest.TestCase):
    def test_cut_error_is_a_value_error(self):
        self.assertEqual(errors.CutError.__bases__, (ValueError,))

    def test_each_error_is_a_direct_subclass_of_cut_error_alone(self):
        for name in ERRORS:
            with self.subTest(error=name):
                self.assertEqual(getattr(errors, name).__bases__, (errors.CutError,))
                self.assertEqual(getattr(errors, name).__module__, "shuffledcuts.errors")

    def test_no_error_is_a_subclass_of_another_one(self):
        for one in ERRORS:
            for other in ERRORS:
                if one != other:
                    self.assertFalse(issubclass(getattr(errors, one), getattr(errors, other)))

    def test_there_are_no_other_errors(self):
        names = {name for name, value in vars(errors).items() if inspect.isclass(value)}
        self.assertEqual(names, {"CutError", *ERRORS})

    def test_attributes_are_set_when_the_error_is_created(self):
        for name, attributes in ERRORS.items():
            with self.subTest(error=name):
                error = getattr(errors, name)(*attributes.values())
                self.assertEqual({key: getattr(error, key) for key in attributes}, attributes)
                self.assertEqual(vars(error), attributes)
                self.assertIsInstance(str(error), str)

    def test_errors_that_are_raised(self):
        for module, name, arguments, error, attributes in RAISED:
            with self.subTest(function=name):
                told = copy.deepcopy(arguments)
                with self.assertRaises(errors.CutError) as caught:
                    found(module, name)(**told)
                self.assertIs(type(caught.exception), getattr(errors, error))
                self.assertEqual(vars(caught.exception), attributes)
                self.assertEqual(repr(told), repr(arguments))

    def test_every_error_is_raised_by_some_function(self):
        self.assertEqual({row[3] for row in RAISED}, set(ERRORS))


if __name__ == "__main__":
    unittest.main()
