"""The names, arguments and places of the interface, and the errors [1], [2]."""

import importlib
import inspect
import unittest

from shuffledcuts import errors

FUNCTIONS = {
    "compositions": {
        "check_composition": ["value"], "all_compositions": ["n"], "places_of": ["composition"],
        "of_places": ["n", "places"], "is_finer": ["one", "other"], "finer_ones": ["composition"],
        "coarser_ones": ["composition"], "turned": ["composition"], "other_side": ["composition"],
        "across": ["composition"], "runs_of": ["listing"], "count_by_runs": ["composition"]},
    "sums": {
        "sum_breach": ["value"], "check_sum": ["value"], "plus": ["one", "other"], "times": ["k", "one"],
        "pairing": ["one", "other"], "degree_part": ["one", "n"], "degrees": ["one"]},
    "bases": {
        "plain_of_runs": ["one"], "runs_of_plain": ["one"], "ribbons_of_wholes": ["one"],
        "wholes_of_ribbons": ["one"]},
    "texts": {"written": ["one"], "read_sum": ["text"]},
    "products": {
        "overlaid": ["one", "other"], "run_product": ["one", "other"], "behind": ["one", "other"],
        "ribbon_product": ["one", "other"]},
    "listings": {
        "shuffled": ["one", "other"], "run_sum": ["one"], "listing_cuts": ["one"], "back_listing": ["listing"],
        "then": ["one", "other"]},
    "cuts": {
        "plain_cuts": ["one"], "run_cuts": ["one"], "whole_cuts": ["one"], "ribbon_cuts": ["one"],
        "paired": ["one", "other"], "cut_product": ["one", "other", "product"]},
    "turns": {
        "turned_back": ["one", "sort"], "turned_by_depths": ["one", "sort"], "turned_short": ["one", "sort"]},
    "lots": {
        "wide_lot": ["composition"], "narrow_lot": ["composition"], "lot_product": ["one", "other"],
        "narrow_product": ["one", "other"], "lot_counts": ["one"]},
    "shares": {
        "rising_row": ["n"], "rising_share": ["n", "k"], "shuffle_row": ["n", "a"], "runs_counts": ["n"]},
    "orders": {
        "check_order": ["value"], "order_of": ["n", "pairs"], "rows_of": ["order"], "row_count": ["order"],
        "lower_lots": ["order"], "part_order": ["order", "things"], "beside_order": ["one", "other"],
        "below_all": ["one", "other"], "upside_down": ["order"], "swapped": ["order"]},
    "fillings": {
        "order_sum": ["order"], "strict_sum": ["order"], "fillings": ["order", "m"], "filling_row": ["order"]},
    "webs": {
        "check_web": ["value"], "web_sum": ["web"], "colourings": ["web", "m"], "colour_row": ["web"],
        "beside_web": ["one", "other"], "part_web": ["web", "places"], "one_ways": ["web"]},
}

ERRORS = {
    "NotComposition": {"place": -1}, "NotSum": {"rule": "form", "place": -1}, "NotText": {"place": 3},
    "TooMany": {"limit": 10}, "NotShort": {}, "NotFit": {}, "NotOrder": {"rule": "chain"}, "NotWeb": {},
    "NotTree": {},
}


class Interface(unittest.TestCase):
    def test_functions_stand_in_their_files_with_their_arguments(self):
        for name, functions in FUNCTIONS.items():
            module = importlib.import_module("shuffledcuts." + name)
            for function_name, arguments in functions.items():
                with self.subTest(function=function_name):
                    function = getattr(module, function_name)
                    self.assertTrue(inspect.isfunction(function))
                    self.assertEqual(function.__module__, module.__name__)
                    self.assertEqual(list(inspect.signature(function).parameters), arguments)


class Errors(unittest.TestCase):
    def test_cut_error_is_a_value_error(self):
        self.assertEqual(errors.CutError.__bases__, (ValueError,))

    def test_each_error_is_a_direct_subclass_of_cut_error_alone(self):
        for name in ERRORS:
            with self.subTest(error=name):
                self.assertEqual(getattr(errors, name).__bases__, (errors.CutError,))
                self.assertEqual(getattr(errors, name).__module__, "shuffledcuts.errors")

    def test_no_error_is_a_subclass_of_another_one(self):
        for one in ERRORS:
            for other in ERRORS:
                if one != other:
                    self.assertFalse(issubclass(getattr(errors, one), getattr(errors, other)))

    def test_there_are_no_other_errors(self):
        found = {name for name, value in vars(errors).items() if inspect.isclass(value)}
        self.assertEqual(found, {"CutError", *ERRORS})

    def test_attributes_are_set_when_the_error_is_created(self):
        for name, attributes in ERRORS.items():
            with self.subTest(error=name):
                error = getattr(errors, name)(*attributes.values())
                self.assertEqual({key: getattr(error, key) for key in attributes}, attributes)
                self.assertEqual(vars(error), attributes)
                self.assertIsInstance(str(error), str)


if __name__ == "__main__":
    unittest.main()
