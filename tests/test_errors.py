import unittest

from pulltree import errors

WITH_MESSAGE = ["NoPlant", "NoStation", "NoStock", "NoPattern", "NoDays", "NoBox", "NotOrdered", "NoWords",
                "NoNumber", "Full", "Nothing", "NoText", "NoRow"]


class ErrorsTest(unittest.TestCase):
    def test_base_is_a_value_error(self):
        self.assertEqual(errors.PlantError.__bases__, (ValueError,))

    def test_all_others_are_direct_subclasses(self):
        for name in WITH_MESSAGE + ["TooMany"]:
            with self.subTest(name):
                self.assertEqual(getattr(errors, name).__bases__, (errors.PlantError,))

    def test_there_are_no_further_errors(self):
        found = {value.__name__ for value in vars(errors).values() if isinstance(value, type)}
        self.assertEqual(found, set(WITH_MESSAGE) | {"TooMany", "PlantError"})
        below = {value.__name__ for value in errors.PlantError.__subclasses__()}
        self.assertEqual(below, set(WITH_MESSAGE) | {"TooMany"})

    def test_they_take_a_message(self):
        for name in WITH_MESSAGE + ["PlantError"]:
            with self.subTest(name):
                error = getattr(errors, name)("some message")
                self.assertIs(type(error), getattr(errors, name))
                self.assertEqual(str(error), "some message")

    def test_too_many_takes_a_number(self):
        for number in [0, 1, 201, 10 ** 60]:
            error = errors.TooMany(number)
            self.assertEqual(error.size, number)
            self.assertIs(type(error), errors.TooMany)

    def test_too_many_keeps_its_size_when_raised(self):
        with self.assertRaises(ValueError) as caught:
            raise errors.TooMany(41)
        self.assertEqual(caught.exception.size, 41)


if __name__ == "__main__":
    unittest.main()
