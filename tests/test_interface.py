import inspect
import unittest

from pulltree import emptyings, errors, far, ordering, plants, stocks, words

FUNCTIONS = {
    plants: {"is_plant": ["value"], "customer": ["plant", "station"], "suppliers": ["plant", "station"],
             "makers": ["plant"], "size": ["plant", "station"], "path_to_shop": ["plant", "station"]},
    stocks: {"is_stock": ["plant", "value"], "pattern": ["plant", "stock"], "after_day": ["plant", "stock"],
             "run": ["plant", "stock", "days"], "record": ["plant", "stock", "days"]},
    ordering: {"is_ordered": ["plant", "stock"], "disorder": ["plant", "stock"],
               "is_disorder": ["plant", "stock", "value"], "days_until_ordered": ["plant", "stock"],
               "first_ordered": ["plant", "stock"]},
    words: {"word": ["plant", "stock", "station"], "words_of": ["plant", "stock"], "is_words": ["plant", "value"],
            "pattern_of_words": ["plant", "words"], "words_after": ["plant", "words", "days"]},
    emptyings: {"emptied": ["plant", "stock", "station", "days"],
                "nth_emptying": ["plant", "stock", "station", "number"], "share": ["plant", "station"],
                "emptied_within": ["plant", "stock", "station", "supplier", "many"]},
    far: {"stock_after": ["plant", "stock", "days"], "chain_on": ["plant", "stock", "day"],
          "maker_on": ["plant", "stock", "day"], "box_at": ["plant", "stock", "station", "days"],
          "nth_made": ["plant", "stock", "maker", "number"]},
}


class InterfaceTest(unittest.TestCase):
    def test_functions_stand_in_their_files_with_their_arguments(self):
        for module, functions in FUNCTIONS.items():
            for name, arguments in functions.items():
                with self.subTest(name):
                    function = getattr(module, name)
                    self.assertTrue(inspect.isfunction(function))
                    self.assertEqual(function.__module__, module.__name__)
                    self.assertEqual(list(inspect.signature(function).parameters), arguments)
                    for parameter in inspect.signature(function).parameters.values():
                        self.assertEqual(parameter.kind, parameter.POSITIONAL_OR_KEYWORD)
                        self.assertIs(parameter.default, parameter.empty)

    def test_errors_stand_in_their_file(self):
        for name, value in vars(errors).items():
            if inspect.isclass(value):
                with self.subTest(name):
                    self.assertEqual(value.__module__, "pulltree.errors")


if __name__ == "__main__":
    unittest.main()
