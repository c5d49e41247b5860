import itertools
import unittest

from pulltree.errors import NoDays, NoPlant, NoStock
from pulltree.stocks import after_day, is_stock, pattern, record, run
from refusals import RefusalCase
from simulation import (all_patterns, all_plants, any_plant, any_stock, sample_plants, simulate, simulate_day,
                        stock_by_definition)
from values import NOT_DAYS, NOT_PLANTS, NOT_STOCKS, ORDERED, PLANT, STOCK, WIDE

OF_STOCK = [pattern, after_day]
OF_DAYS = [run, record]

TABLE = [
    (4, (0, 2, 3), (2, 3, 1, 5)),
    (2, (0, 2, 3), (1, 3, 5, 6)),
    (1, (0, 1), (3, 7, 5, 6)),
    (3, (0, 2, 3), (5, 7, 6, 8)),
    (5, (0, 2, 3), (6, 7, 8, 9)),
    (6, (0, 1), (7, 10, 8, 9)),
]


class ExamplesTest(unittest.TestCase):
    def test_examples_of_the_document(self):
        self.assertIs(is_stock(PLANT, (4, 3, 2, 4)), False)
        self.assertEqual(pattern(PLANT, ORDERED), (0, 1, 2, 3))
        self.assertEqual(after_day(PLANT, STOCK), (4, [0, 2, 3], (2, 3, 1, 5)))
        self.assertEqual(run(PLANT, STOCK, 3), (3, 7, 5, 6))
        self.assertEqual(record(PLANT, STOCK, 3), [(4, (0, 2, 3)), (2, (0, 2, 3)), (1, (0, 1))])

    def test_table_of_the_document(self):
        stock = STOCK
        for day, (sold, chain, later) in enumerate(TABLE, start=1):
            self.assertEqual(after_day(PLANT, stock), (sold, list(chain), later))
            self.assertEqual(run(PLANT, STOCK, day), later)
            stock = later
        self.assertEqual(record(PLANT, STOCK, 6), [(sold, chain) for sold, chain, later in TABLE])

    def test_values_of_the_document(self):
        self.assertEqual(run(PLANT, STOCK, 2), ORDERED)
        for boxes in [STOCK, ORDERED]:
            self.assertIs(is_stock(PLANT, boxes), True)
        self.assertIs(is_stock(WIDE, (0, 1, 2, 3, 4, 5)), True)

    def test_plant_of_one_station(self):
        self.assertIs(is_stock((), (7,)), True)
        self.assertEqual(pattern((), (-7,)), (0,))
        self.assertEqual(after_day((), (7,)), (7, [0], (8,)))
        self.assertEqual(record((), (7,), 3), [(7, (0,)), (8, (0,)), (9, (0,))])
        self.assertEqual(run((), (7,), 2000), (2007,))


class IsStockTest(unittest.TestCase):
    def test_stocks_of_all_sizes(self):
        for seed, plant in enumerate(sample_plants()):
            stock = any_stock(plant, seed)
            self.assertIs(is_stock(plant, stock), True)
            self.assertIs(is_stock(plant, list(stock)), False)
            self.assertIs(is_stock(plant, stock[1:]), False)
            self.assertIs(is_stock(plant, stock + (10 ** 41,)), False)
            self.assertIs(is_stock(plant, stock[:-1] + (True,)), False)
            self.assertIs(is_stock(plant, (False,) + stock[1:]), False)
            if plant:
                self.assertIs(is_stock(plant, stock[:-1] + stock[:1]), False)

    def test_all_short_tuples(self):
        for plant in [(), (0,), (0, 1)]:
            for length in range(4):
                for value in itertools.product([-1, 0, 1, 10 ** 40, -10 ** 40, True, False, None, "0", ()],
                                               repeat=length):
                    self.assertIs(is_stock(plant, value), stock_by_definition(plant, value), value)

    def test_very_great_numbers_that_differ_by_one(self):
        for great in [10 ** 40, -10 ** 40, 10 ** 80]:
            stock = (great, great + 1, great - 1, great + 2)
            self.assertIs(is_stock(PLANT, stock), True)
            self.assertEqual(pattern(PLANT, stock), (1, 2, 0, 3))

    def test_other_values(self):
        nested = ()
        for _ in range(40):
            nested = (nested,)
        for value in NOT_STOCKS + [nested, PLANT, {4: 3, 2: 1, 5: 6, 7: 8}]:
            with self.subTest(value):
                self.assertIs(is_stock(PLANT, value), False)


class DaysTest(unittest.TestCase):
    def test_pattern_is_the_ranks(self):
        for seed, plant in enumerate(sample_plants()):
            stock = any_stock(plant, seed)
            ranks = tuple(sum(other < box for other in stock) for box in stock)
            self.assertEqual(pattern(plant, stock), ranks)
            self.assertIs(is_stock(plant, ranks), True)
            self.assertEqual(pattern(plant, ranks), ranks)

    def test_a_day_of_every_small_stock(self):
        for count in range(1, 6):
            for plant in all_plants(count):
                for stock in all_patterns(plant):
                    self.assertEqual(after_day(plant, stock), simulate_day(plant, stock))

    def test_plants_of_all_sizes(self):
        for seed, plant in enumerate(sample_plants()):
            stock = any_stock(plant, seed)
            self.assertEqual(after_day(plant, stock), simulate_day(plant, stock))
            for days in [0, 1, 2, 45]:
                rows, later = simulate(plant, stock, days)
                self.assertEqual(run(plant, stock, days), later)
                self.assertEqual(record(plant, stock, days), rows)

    def test_some_hundred_days(self):
        for count in [2, 5, 13, 27, 40]:
            plant = any_plant(count, count)
            stock = any_stock(plant, count)
            rows, later = simulate(plant, stock, 300)
            self.assertEqual(run(plant, stock, 300), later)
            self.assertEqual(record(plant, stock, 300), rows)

    def test_2000_days(self):
        for plant, stock in [(PLANT, STOCK), (WIDE, (5, -3, 10 ** 40, 0, 2, -10 ** 40))]:
            rows, later = simulate(plant, stock, 2000)
            self.assertEqual(run(plant, stock, 2000), later)
            self.assertEqual(record(plant, stock, 2000), rows)

    def test_2000_days_of_40_stations_are_accepted(self):
        for count in [39, 40]:
            plant = any_plant(count, 7)
            stock = any_stock(plant, 7)
            later = run(plant, stock, 2000)
            rows = record(plant, stock, 2000)
            self.assertEqual(max(later), max(stock) + 2000)
            self.assertEqual(len(rows), 2000)
            self.assertEqual(run(plant, run(plant, stock, 1000), 1000), later)

    def test_a_later_stock_may_be_passed_back(self):
        stock = run(PLANT, (10 ** 40, 10 ** 40 - 1, -10 ** 40, 0), 2000)
        self.assertIs(is_stock(PLANT, stock), True)
        self.assertEqual(run(PLANT, stock, 5), simulate(PLANT, stock, 5)[1])

    def test_no_days(self):
        self.assertEqual(run(PLANT, STOCK, 0), STOCK)
        self.assertEqual(record(PLANT, STOCK, 0), [])


class KindsTest(unittest.TestCase):
    def test_kinds_of_results(self):
        result = after_day(PLANT, STOCK)
        self.assertIs(type(result), tuple)
        self.assertEqual([type(part) for part in result], [int, list, tuple])
        self.assertIs(type(pattern(PLANT, STOCK)), tuple)
        for days in [0, 1, 9]:
            self.assertIs(type(run(PLANT, STOCK, days)), tuple)
            rows = record(PLANT, STOCK, days)
            self.assertIs(type(rows), list)
            for row in rows:
                self.assertIs(type(row), tuple)
                self.assertEqual([type(part) for part in row], [int, tuple])

    def test_returned_lists_are_new(self):
        chain = after_day(PLANT, STOCK)[1]
        chain.clear()
        self.assertEqual(after_day(PLANT, STOCK), (4, [0, 2, 3], (2, 3, 1, 5)))
        rows = record(PLANT, STOCK, 2)
        rows.reverse()
        rows.append(None)
        self.assertEqual(record(PLANT, STOCK, 2), [(4, (0, 2, 3)), (2, (0, 2, 3))])

    def test_other_stocks_in_between_change_nothing(self):
        for seed, plant in enumerate(sample_plants()):
            stock = any_stock(plant, seed)
            other = any_stock(plant, seed + 1000)
            before = [pattern(plant, stock), after_day(plant, stock), run(plant, stock, 9), record(plant, stock, 9)]
            pattern(plant, other), after_day(plant, other), run(plant, other, 9), record(plant, other, 9)
            after = [pattern(plant, stock), after_day(plant, stock), run(plant, stock, 9), record(plant, stock, 9)]
            self.assertEqual(after, before)


class ErrorsTest(RefusalCase):
    def test_no_plant(self):
        for value in NOT_PLANTS:
            for stock in [STOCK, (1,), None, []]:
                self.check_refused(NoPlant, is_stock, (value, stock))
            for stock in [STOCK, (1,)] + NOT_STOCKS:
                for function in OF_STOCK:
                    self.check_refused(NoPlant, function, (value, stock))
                for days in [0, 1, 2001, True, None]:
                    for function in OF_DAYS:
                        self.check_refused(NoPlant, function, (value, stock, days))

    def test_no_stock(self):
        for value in NOT_STOCKS:
            for function in OF_STOCK:
                self.check_refused(NoStock, function, (PLANT, value))
            for days in [0, 1] + NOT_DAYS:
                for function in OF_DAYS:
                    self.check_refused(NoStock, function, (PLANT, value, days))

    def test_no_days(self):
        for value in NOT_DAYS:
            for function in OF_DAYS:
                self.check_refused(NoDays, function, (PLANT, STOCK, value))

    def test_least_and_greatest_number_of_days(self):
        for function in OF_DAYS:
            for days in [0, 2000]:
                function(PLANT, STOCK, days)
            for days in [-1, 2001]:
                self.check_refused(NoDays, function, (PLANT, STOCK, days))

    def test_stock_of_another_plant(self):
        for function in OF_STOCK:
            self.check_refused(NoStock, function, (WIDE, STOCK))
            self.check_refused(NoStock, function, ((), ()))
            self.check_refused(NoStock, function, ((), STOCK))


if __name__ == "__main__":
    unittest.main()
