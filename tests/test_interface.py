import inspect
import unittest

from pulltree import (backwards, console, counting, cycles, emptyings, errors, far, live, ordering, plants, sales,
                      stocks, texts, turns, words)

FUNCTIONS = {
    plants: {"is_plant": ["value"], "customer": ["plant", "station"], "suppliers": ["plant", "station"],
             "makers": ["plant"], "size": ["plant", "station"], "path_to_shop": ["plant", "station"]},
    stocks: {"is_stock": ["plant", "value"], "pattern": ["plant", "stock"], "after_day": ["plant", "stock"],
             "run": ["plant", "stock", "days"], "record": ["plant", "stock", "days"]},
    ordering: {"is_ordered": ["plant", "stock"], "disorder": ["plant", "stock"],
               "is_disorder": ["plant", "stock", "value"], "days_until_ordered": ["plant", "stock"],
               "first_ordered": ["plant", "stock"]},
    words: {"word": ["plant", "stock", "station"], "words_of": ["plant", "stock"], "is_words": ["plant", "value"],
            "pattern_of_words": ["plant", "words"], "words_after": ["plant", "words", "days"]},
    emptyings: {"emptied": ["plant", "stock", "station", "days"],
                "nth_emptying": ["plant", "stock", "station", "number"], "share": ["plant", "station"],
                "emptied_within": ["plant", "stock", "station", "supplier", "many"]},
    far: {"stock_after": ["plant", "stock", "days"], "chain_on": ["plant", "stock", "day"],
          "maker_on": ["plant", "stock", "day"], "box_at": ["plant", "stock", "station", "days"],
          "nth_made": ["plant", "stock", "maker", "number"]},
    sales: {"first_sales": ["plant", "stock"], "sold_on": ["plant", "stock", "day"],
            "day_sold": ["plant", "stock", "box"], "travel": ["plant", "stock", "box"]},
    cycles: {"word_period": ["plant", "stock", "station"], "cycle_length": ["plant", "stock"],
             "cycle_of": ["plant", "stock"], "days_between": ["plant", "stock", "other"]},
    counting: {"count_ordered": ["plant"], "nth_ordered": ["plant", "number"], "ordered_number": ["plant", "stock"],
               "longest_cycle": ["plant"]},
    backwards: {"has_day_before": ["plant", "pattern"], "patterns_before": ["plant", "pattern"],
                "ordered_before": ["plant", "pattern", "days"], "count_before": ["plant", "pattern", "days"],
                "stocks_with_sales": ["plant", "boxes"]},
    turns: {"turn_days": ["plant", "station"], "turn_time": ["plant", "maker"], "turn_chain": ["plant", "day"],
            "turn_stock_after": ["plant", "stock", "days"], "turn_sold_on": ["plant", "stock", "day"],
            "mean_time": ["plant"]},
    texts: {"show_plant": ["plant", "stock"], "read_plant": ["text"]},
}


METHODS = {
    live.LivePlant: {"__init__": ["self", "plant", "stock"], "day": ["self"], "days": ["self", "days"],
                     "sell": ["self", "station"], "add": ["self", "station"], "remove": ["self"], "undo": ["self"],
                     "plant": ["self"], "stock": ["self"], "log": ["self"], "__len__": ["self"],
                     "__eq__": ["self", "other"]},
    console.Console: {"__init__": ["self"], "say": ["self", "row"]},
}


class InterfaceTest(unittest.TestCase):
    def test_functions_stand_in_their_files_with_their_arguments(self):
        for module, functions in FUNCTIONS.items():
            for name, arguments in functions.items():
                with self.subTest(name):
                    function = getattr(module, name)
                    self.assertTrue(inspect.isfunction(function))
                    self.assertEqual(function.__module__, module.__name__)
                    self.assertEqual(list(inspect.signature(function).parameters), arguments)
                    for parameter in inspect.signature(function).parameters.values():
                        self.assertEqual(parameter.kind, parameter.POSITIONAL_OR_KEYWORD)
                        self.assertIs(parameter.default, parameter.empty)

    def test_classes_stand_in_their_files_with_their_methods(self):
        self.assertEqual(live.LivePlant.__module__, "pulltree.live")
        self.assertEqual(console.Console.__module__, "pulltree.console")
        for owner, methods in METHODS.items():
            for name, arguments in methods.items():
                with self.subTest(name):
                    self.assertEqual(list(inspect.signature(vars(owner)[name]).parameters), arguments)

    def test_the_stock_of_a_live_plant_is_passed_by_keyword(self):
        stock = inspect.signature(live.LivePlant).parameters["stock"]
        self.assertEqual([stock.kind, stock.default], [stock.KEYWORD_ONLY, None])

    def test_errors_stand_in_their_file(self):
        for name, value in vars(errors).items():
            if inspect.isclass(value):
                with self.subTest(name):
                    self.assertEqual(value.__module__, "pulltree.errors")


if __name__ == "__main__":
    unittest.main()
