"""Calls a function with wrong arguments: each fault alone, and together with later ones."""

import itertools
import random
import unittest

from pulltree.errors import PlantError


def with_faults(good, faults, source):
    """The arguments with all these faults; an earlier fault of an argument outdoes a later one."""
    arguments = list(good)
    for error, position, values in reversed(faults):
        arguments[position] = source.choice(values)
    return tuple(arguments)


class RefusalCase(unittest.TestCase):
    def check_refused(self, error, function, arguments):
        shown = repr(arguments)
        try:
            function(*arguments)
        except ValueError as raised:
            self.assertIs(type(raised), error, (function.__name__, shown))
            self.assertIsInstance(raised, PlantError)
        else:
            self.fail(f"{function.__name__}{shown} raised nothing")
        self.assertEqual(repr(arguments), shown)

    def check_refusals(self, function, good, faults):
        """The faults are (error, position, values), in the order in which the interface lists the errors."""
        function(*good)
        for error, position, values in faults:
            for value in values:
                self.check_refused(error, function, good[:position] + (value,) + good[position + 1:])
        source = random.Random(function.__name__)
        for many in range(2, len(faults) + 1):
            for chosen in itertools.combinations(faults, many):
                for _ in range(60):
                    self.check_refused(chosen[0][0], function, with_faults(good, chosen, source))
