"""The interface: modules, names, arguments, and how the error classes stand under one another."""

import importlib
import inspect
import unittest

from pastways import errors

FUNCTIONS = {
    "pastways.changes": {"is_change": 1, "form": 1, "before": 1, "after": 1, "cost": 1},
    "pastways.doing": {"fits": 2, "done": 2, "undone": 1, "nothing": 1, "then": 2, "all_then": 2},
    "pastways.passing": {"past": 3, "merged": 2, "clashing": 2, "rows_past": 2},
    "pastways.places": {"place_after": 3, "place_before": 3, "sign_after": 2, "touched": 1, "of_touched": 2},
    "pastways.parts": {"drops_of": 1, "puts_of": 1, "joined": 2, "cut": 2, "only": 3, "singles": 1},
    "pastways.making": {"least_cost": 2, "least_change": 2, "apart": 2},
    "pastways.deciding": {"alike": 2, "within": 2, "parting": 2, "all_fit": 1},
    "pastways.middles": {"meet": 2},
    "pastways.texts": {"change_text": 1, "read_change": 1, "rows_text": 1, "read_rows": 1},
    "pastways.owners": {"owners": 2, "shares": 2, "lost": 2},
    "pastways.squeezing": {"squeezed": 1},
    "pastways.ownedtexts": {"owned_text": 1, "read_owned": 1},
}
# Of each class how many arguments make an object, and its methods.
CLASSES = {
    "pastways.books": {
        "Book": (1, {"do": 1, "take_back": 1, "text": 0, "text_at": 1, "changes": 0, "taken_back": 0, "whole": 0}),
    },
    "pastways.middles": {
        "Middle": (1, {"take": 3, "text": 0, "many": 0, "behind": 1}),
        "Hand": (2, {"do": 1, "send": 0, "take": 2, "text": 0, "is_still": 0}),
    },
    "pastways.ledgers": {
        "Ledger": (1, {"write": 2, "fold": 0, "text": 0, "entries": 0, "owner_at": 1, "back": 0, "forth": 0,
                       "counts": 0, "twin": 0}),
    },
}
BELOW = ("NoFit", "Clash", "NoPlace", "NoNumber", "NoText")


class InterfaceTest(unittest.TestCase):
    def test_each_function_is_there_with_its_arguments(self):
        for module, names in FUNCTIONS.items():
            for name, many in names.items():
                with self.subTest(module=module, name=name):
                    function = getattr(importlib.import_module(module), name)
                    self.assertTrue(inspect.isfunction(function))
                    self.assertEqual(len(inspect.signature(function).parameters), many)

    def test_each_class_is_there_with_its_methods(self):
        for module, names in CLASSES.items():
            for name, (many, methods) in names.items():
                with self.subTest(module=module, name=name):
                    told = getattr(importlib.import_module(module), name)
                    self.assertTrue(inspect.isclass(told))
                    self.assertEqual(len(inspect.signature(told).parameters), many)
                    thing = told(*["ab"] * many)
                    for method, wanted in methods.items():
                        self.assertEqual(len(inspect.signature(getattr(thing, method)).parameters), wanted, method)

    def test_any_refusal_is_a_value_error(self):
        self.assertEqual(errors.WayError.__bases__, (ValueError,))

    def test_each_refusal_is_below_way_error_and_none_below_another(self):
        for name in BELOW:
            with self.subTest(name=name):
                self.assertEqual(getattr(errors, name).__bases__, (errors.WayError,))

    def test_the_refusals_are_five(self):
        self.assertEqual(len({getattr(errors, name) for name in BELOW}), 5)


if __name__ == "__main__":
    unittest.main()
