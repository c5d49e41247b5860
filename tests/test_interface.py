import inspect
import unittest

from pulltree import errors, plants, stocks

FUNCTIONS = {
    plants: {"is_plant": ["value"], "customer": ["plant", "station"], "suppliers": ["plant", "station"],
             "makers": ["plant"], "size": ["plant", "station"], "path_to_shop": ["plant", "station"]},
    stocks: {"is_stock": ["plant", "value"], "pattern": ["plant", "stock"], "after_day": ["plant", "stock"],
             "run": ["plant", "stock", "days"], "record": ["plant", "stock", "days"]},
}


class InterfaceTest(unittest.TestCase):
    def test_functions_stand_in_their_files_with_their_arguments(self):
        for module, functions in FUNCTIONS.items():
            for name, arguments in functions.items():
                with self.subTest(name):
                    function = getattr(module, name)
                    self.assertTrue(inspect.isfunction(function))
                    self.assertEqual(function.__module__, module.__name__)
                    self.assertEqual(list(inspect.signature(function).parameters), arguments)
                    for parameter in inspect.signature(function).parameters.values():
                        self.assertEqual(parameter.kind, parameter.POSITIONAL_OR_KEYWORD)
                        self.assertIs(parameter.default, parameter.empty)

    def test_errors_stand_in_their_file(self):
        for name, value in vars(errors).items():
            if inspect.isclass(value):
                with self.subTest(name):
                    self.assertEqual(value.__module__, "pulltree.errors")


if __name__ == "__main__":
    unittest.main()
