import inspect
import unittest

from pulltree import backwards, counting, cycles, emptyings, errors, far, ordering, plants, sales, stocks, words

FUNCTIONS = {
    plants: {"is_plant": ["value"], "customer": ["plant", "station"], "suppliers": ["plant", "station"],
             "makers": ["plant"], "size": ["plant", "station"], "path_to_shop": ["plant", "station"]},
    stocks: {"is_stock": ["plant", "value"], "pattern": ["plant", "stock"], "after_day": ["plant", "stock"],
             "run": ["plant", "stock", "days"], "record": ["plant", "stock", "days"]},
    ordering: {"is_ordered": ["plant", "stock"], "disorder": ["plant", "stock"],
               "is_disorder": ["plant", "stock", "value"], "days_until_ordered": ["plant", "stock"],
               "first_ordered": ["plant", "stock"]},
    words: {"word": ["plant", "stock", "station"], "words_of": ["plant", "stock"], "is_words": ["plant", "value"],
            "pattern_of_words": ["plant", "words"], "words_after": ["plant", "words", "days"]},
    emptyings: {"emptied": ["plant", "stock", "station", "days"],
                "nth_emptying": ["plant", "stock", "station", "number"], "share": ["plant", "station"],
                "emptied_within": ["plant", "stock", "station", "supplier", "many"]},
    far: {"stock_after": ["plant", "stock", "days"], "chain_on": ["plant", "stock", "day"],
          "maker_on": ["plant", "stock", "day"], "box_at": ["plant", "stock", "station", "days"],
          "nth_made": ["plant", "stock", "maker", "number"]},
    sales: {"first_sales": ["plant", "stock"], "sold_on": ["plant", "stock", "day"],
            "day_sold": ["plant", "stock", "box"], "travel": ["plant", "stock", "box"]},
    cycles: {"word_period": ["plant", "stock", "station"], "cycle_length": ["plant", "stock"],
             "cycle_of": ["plant", "stock"], "days_between": ["plant", "stock", "other"]},
    counting: {"count_ordered": ["plant"], "nth_ordered": ["plant", "number"], "ordered_number": ["plant", "stock"],
               "longest_cycle": ["plant"]},
    backwards: {"has_day_before": ["plant", "pattern"], "patterns_before": ["plant", "pattern"],
                "ordered_before": ["plant", "pattern", "days"], "count_before": ["plant", "pattern", "days"],
                "stocks_with_sales": ["plant", "boxes"]},
}


class InterfaceTest(unittest.TestCase):
    def test_functions_stand_in_their_files_with_their_arguments(self):
        for module, functions in FUNCTIONS.items():
            for name, arguments in functions.items():
                with self.subTest(name):
                    function = getattr(module, name)
                    self.assertTrue(inspect.isfunction(function))
                    self.assertEqual(function.__module__, module.__name__)
                    self.assertEqual(list(inspect.signature(function).parameters), arguments)
                    for parameter in inspect.signature(function).parameters.values():
                        self.assertEqual(parameter.kind, parameter.POSITIONAL_OR_KEYWORD)
                        self.assertIs(parameter.default, parameter.empty)

    def test_errors_stand_in_their_file(self):
        for name, value in vars(errors).items():
            if inspect.isclass(value):
                with self.subTest(name):
                    self.assertEqual(value.__module__, "pulltree.errors")


if __name__ == "__main__":
    unittest.main()
