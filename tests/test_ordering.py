import itertools
import unittest

from pulltree.errors import NoPlant, NoStock
from pulltree.ordering import days_until_ordered, disorder, first_ordered, is_disorder, is_ordered
from pulltree.stocks import after_day, run
from refusals import RefusalCase
from simulation import (all_patterns, all_plants, any_stock, chain_plant, customer_of, disorders_of,
                        ordered_by_definition, ordered_stock, sample_plants, simulate_day, star_plant, stations)
from values import NOT_PLANTS, NOT_STOCKS, ORDERED, OTHER_KINDS, PLANT, STOCK, WIDE

OF_STOCK = [is_ordered, disorder, days_until_ordered, first_ordered]


class Unlike:
    """Is equal to everything, and cannot be hashed, sorted or shown."""

    __hash__ = None

    def __eq__(self, other):
        return True

    def __repr__(self):
        raise RuntimeError("shown")


class ExamplesTest(unittest.TestCase):
    def test_examples_of_the_document(self):
        self.assertIs(is_ordered(PLANT, ORDERED), True)
        self.assertEqual(disorder(PLANT, STOCK), (2, 3))
        self.assertIs(is_disorder(PLANT, STOCK, (0, 3)), True)
        self.assertEqual(days_until_ordered(PLANT, STOCK), 2)
        self.assertEqual(first_ordered(PLANT, STOCK), (1, 3, 5, 6))

    def test_plant_of_one_station(self):
        self.assertIs(is_ordered((), (7,)), True)
        self.assertIsNone(disorder((), (7,)))
        self.assertIs(is_disorder((), (7,), (0, 0)), False)
        self.assertEqual(days_until_ordered((), (7,)), 0)
        self.assertEqual(first_ordered((), (7,)), (7,))


class DefinitionTest(unittest.TestCase):
    def check_now(self, plant, stock):
        found = disorders_of(plant, stock)
        self.assertIs(is_ordered(plant, stock), not found)
        among_neighbours = [(upper, lower) for upper, lower in found if customer_of(plant, lower) == upper]
        last = max(among_neighbours, key=lambda pair: pair[1], default=None)
        self.assertEqual(disorder(plant, stock), last)
        return found

    def check_pairs(self, plant, stock, found):
        for pair in itertools.product(range(-2, len(plant) + 3), repeat=2):
            self.assertIs(is_disorder(plant, stock, pair), pair in found, (plant, stock, pair))

    def check_days(self, plant, stock):
        days = 0
        later = stock
        while not ordered_by_definition(plant, later):
            later = simulate_day(plant, later)[2]
            days += 1
        self.assertLessEqual(days, len(plant))
        self.assertEqual(days_until_ordered(plant, stock), days)
        self.assertEqual(first_ordered(plant, stock), later)

    def test_every_small_stock(self):
        for count in range(1, 6):
            for plant in all_plants(count):
                for stock in all_patterns(plant):
                    found = self.check_now(plant, stock)
                    self.check_pairs(plant, stock, found)
                    self.check_days(plant, stock)

    def test_plants_of_all_sizes(self):
        for seed, plant in enumerate(sample_plants()):
            for stock in [any_stock(plant, seed), ordered_stock(plant, seed)]:
                found = self.check_now(plant, stock)
                self.check_pairs(plant, stock, found)
                self.check_days(plant, stock)
            self.assertIs(is_ordered(plant, stock), True)

    def test_one_disorder_alone(self):
        for plant in sample_plants():
            for lower in range(1, len(plant) + 1):
                upper = customer_of(plant, lower)
                stock = [2 * station for station in stations(plant)]
                stock[lower] = 2 * upper - 1
                found = self.check_now(plant, tuple(stock))
                self.assertIn((upper, lower), found)

    def test_after_at_most_n_minus_1_days_the_stock_is_ordered_and_stays_so(self):
        for seed, plant in enumerate(sample_plants()):
            stock = any_stock(plant, seed + 500)
            wait = days_until_ordered(plant, stock)
            self.assertLessEqual(wait, len(plant))
            for day in range(len(plant) + 5):
                self.assertIs(is_ordered(plant, run(plant, stock, day)), day >= wait)
                self.assertEqual(days_until_ordered(plant, run(plant, stock, day)), max(0, wait - day))

    def test_n_minus_1_days_are_needed_by_a_reversed_chain(self):
        for count in range(1, 41):
            stock = tuple(range(count, 0, -1))
            self.assertEqual(days_until_ordered(chain_plant(count), stock), count - 1)

    def test_numbers_that_differ_by_one(self):
        for great in [10 ** 36, -10 ** 36, 10 ** 40]:
            self.assertIs(is_ordered((0,), (great, great + 1)), True)
            self.assertIs(is_ordered((0,), (great + 1, great)), False)
            self.assertEqual(first_ordered((0,), (great + 1, great)), (great, great + 2))


class AnyValueTest(unittest.TestCase):
    def test_values_that_are_no_disorder(self):
        nested = ()
        listed = []
        for _ in range(38):
            nested = (nested, 3)
            listed = [listed, 3]
        values = OTHER_KINDS + [
            0, 3, "03", b"\x00\x03", {0: 3}, {0, 3}, [0, 3], (0,), (3,), (0, 3, 3), (0, 2, 3), (0, 0), (3, 3), (3, 0),
            (1, 3), (3, 1), (1, 2), (-1, 3), (0, -1), (-4, 3), (-4, -1), (0, 4), (4, 3), (0, 10 ** 36), (-10 ** 36, 3),
            (False, 3), (False, True), (0, True), (2, True), (None, 3), (0, None), ("0", 3), (0, "3"), (0, [3]),
            ([0], 3), ((0,), (3,)), ((0, 3),), (0, {}), ({}, 3), (b"\x00", 3), nested, listed, (0,) * 200, [0] * 200,
            Unlike(), (Unlike(), 3), (0, Unlike()), [Unlike()], is_disorder]
        for number, value in enumerate(values):
            with self.subTest(number):
                self.assertIs(is_disorder(PLANT, STOCK, value), False)

    def test_what_disorder_returns_is_a_disorder(self):
        for seed, plant in enumerate(sample_plants()):
            stock = any_stock(plant, seed)
            found = disorder(plant, stock)
            if found is not None:
                self.assertIs(is_disorder(plant, stock, found), True)
                self.assertIs(is_disorder(plant, stock, found[::-1]), False)
                self.assertIs(is_disorder(plant, stock, list(found)), False)


class KindsTest(unittest.TestCase):
    def test_kinds_of_results(self):
        self.assertIs(type(disorder(PLANT, STOCK)), tuple)
        self.assertEqual([type(part) for part in disorder(PLANT, STOCK)], [int, int])
        for stock in [STOCK, ORDERED]:
            self.assertIs(type(days_until_ordered(PLANT, stock)), int)
            self.assertIs(type(first_ordered(PLANT, stock)), tuple)

    def test_calls_in_between_change_nothing(self):
        before = [function(PLANT, STOCK) for function in OF_STOCK]
        for function in OF_STOCK:
            function(WIDE, (5, 4, 3, 2, 1, 0)), function(star_plant(40), tuple(range(40, 0, -1)))
        self.assertEqual([function(PLANT, STOCK) for function in OF_STOCK], before)
        self.assertEqual(after_day(PLANT, STOCK), (4, [0, 2, 3], (2, 3, 1, 5)))


class ErrorsTest(RefusalCase):
    def test_of_stock(self):
        faults = [(NoPlant, 0, NOT_PLANTS), (NoStock, 1, NOT_STOCKS)]
        for function in OF_STOCK:
            self.check_refusals(function, (PLANT, STOCK), faults)
            self.check_refusals(function, (PLANT, ORDERED), faults)

    def test_is_disorder(self):
        faults = [(NoPlant, 0, NOT_PLANTS), (NoStock, 1, NOT_STOCKS)]
        for value in [(0, 3), (3, 0), None, [0, 3], (0, 4)]:
            self.check_refusals(is_disorder, (PLANT, STOCK, value), faults)

    def test_stock_of_another_plant(self):
        for function in OF_STOCK:
            self.check_refused(NoStock, function, (WIDE, STOCK))
            self.check_refused(NoStock, function, ((), STOCK))
            self.check_refused(NoStock, function, ((), ()))


if __name__ == "__main__":
    unittest.main()
