import random
import unittest

from pulltree.errors import NoBox, NoDays, NoPlant, NoStock
from pulltree.far import box_at, maker_on, stock_after
from pulltree.sales import day_sold, first_sales, sold_on, travel
from near_days import NearDays
from refusals import RefusalCase
from simulation import (all_patterns, all_plants, any_plant, any_stock, chain_plant, customer_of, ordered_stock,
                        sample_plants, simulate, simulated_stocks, star_plant, stations, stays_in)
from values import GREATEST, NOT_FAR_DAYS, NOT_PLANTS, NOT_STOCKS, ORDERED, OTHER_KINDS, PLANT, STOCK, WIDE

OF_STOCK = [(NoPlant, 0, NOT_PLANTS), (NoStock, 1, NOT_STOCKS)]


def first_sales_by_rule(plant, stock):
    """The oldest one of the first boxes at station 0 and at suppliers of stations that are sold out."""
    sold = {}
    for day in range(1, len(stock) + 1):
        ready = [station for station in stations(plant)
                 if station not in sold and (station == 0 or customer_of(plant, station) in sold)]
        sold[min(ready, key=stock.__getitem__)] = day
    return [stock[station] for station in sorted(sold, key=sold.get)]


class ExamplesTest(unittest.TestCase):
    def test_examples_of_the_document(self):
        self.assertEqual(first_sales(PLANT, STOCK), [4, 2, 1, 3])
        self.assertEqual(sold_on(PLANT, STOCK, 10 ** 9), 1000000000)
        self.assertEqual([day_sold(PLANT, STOCK, box) for box in [3, 5, 104]], [4, 5, 104])
        self.assertEqual(travel(PLANT, STOCK, 5), [(3, 1), (2, 2), (0, 4)])

    def test_plant_of_one_station(self):
        self.assertEqual(first_sales((), (-7,)), [-7])
        for day in [1, 2, 3, 100, GREATEST]:
            self.assertEqual(sold_on((), (-7,), day), day - 8)
            self.assertEqual(day_sold((), (-7,), day - 7), day + 1)
            self.assertEqual(travel((), (-7,), day - 7), [(0, day)])
        self.assertEqual(day_sold((), (-7,), -7), 1)
        self.assertEqual(travel((), (-7,), -7), [(0, 0)])


class NearDaysTest(NearDays, unittest.TestCase):
    def check_near_days(self, plant, stock, days, step):
        rows, later = simulate(plant, stock, days)
        sales = [sold for sold, chain in rows]
        self.assertEqual(first_sales(plant, stock)[:days], sales[:len(stock)])
        self.assertEqual(first_sales(plant, stock), first_sales_by_rule(plant, stock))
        stays = stays_in(simulated_stocks(plant, stock, days))
        for day, box in enumerate(sales, start=1):
            self.assertEqual(sold_on(plant, stock, day), box)
            self.assertEqual(day_sold(plant, stock, box), day)
            self.assertEqual(travel(plant, stock, box), stays[box])
        for box in set(stays) - set(sales):
            self.assertGreater(day_sold(plant, stock, box), days)
            self.assertEqual(travel(plant, stock, box)[:len(stays[box])], stays[box])


class PromisesTest(unittest.TestCase):
    def test_every_new_box_is_sold_n_days_after_it_was_made(self):
        for seed, plant in enumerate(sample_plants()):
            stock = any_stock(plant, seed)
            rows, later = simulate(plant, stock, 2 * len(stock) + 5)
            made = {max(stock) + day: day for day in range(1, len(rows) + 1)}
            for day, (sold, chain) in enumerate(rows, start=1):
                if day > len(stock):
                    self.assertEqual(made[sold], day - len(stock))
                else:
                    self.assertIn(sold, stock)

    def test_first_boxes_are_sold_by_the_rule(self):
        for seed, plant in enumerate(sample_plants()):
            stock = any_stock(plant, seed)
            expected = first_sales_by_rule(plant, stock)
            self.assertEqual(first_sales(plant, stock), expected)
            self.assertEqual([sold for sold, chain in simulate(plant, stock, len(stock))[0]], expected)

    def test_an_ordered_stock_is_sold_from_the_oldest_box_to_the_newest(self):
        for seed, plant in enumerate(sample_plants()):
            stock = ordered_stock(plant, seed)
            self.assertEqual(first_sales(plant, stock), sorted(stock))

    def test_every_box_of_a_stock_is_sold_once(self):
        for plant in [star_plant(40), chain_plant(40), any_plant(40, 5)]:
            for seed in range(20):
                stock = any_stock(plant, seed)
                self.assertEqual(sorted(first_sales(plant, stock)), sorted(stock))
                self.assertEqual(sorted(day_sold(plant, stock, box) for box in stock), list(range(1, 41)))

    def test_every_small_stock_of_gaps(self):
        for plant in all_plants(4):
            for ranks in all_patterns(plant):
                stock = tuple(10 * rank - 15 for rank in ranks)
                sales = [sold for sold, chain in simulate(plant, stock, 9)[0]]
                self.assertEqual([sold_on(plant, stock, day) for day in range(1, 10)], sales)
                self.assertEqual([day_sold(plant, stock, box) for box in sales], list(range(1, 10)))


class FarDaysTest(unittest.TestCase):
    def days(self, seed):
        source = random.Random(seed)
        return [1, 2, 40, 41, 10 ** 9, source.randrange(1, 10 ** 18), source.randrange(1, GREATEST), GREATEST - 1,
                GREATEST]

    def test_sold_on_is_the_box_at_the_shop_before_the_day(self):
        for seed, plant in enumerate(sample_plants()):
            stock = any_stock(plant, seed)
            for day in self.days(seed):
                self.assertEqual(sold_on(plant, stock, day), box_at(plant, stock, 0, day - 1))

    def test_days_and_boxes_lead_to_each_other(self):
        for seed, plant in enumerate(sample_plants()):
            stock = any_stock(plant, seed)
            for day in self.days(seed):
                self.assertEqual(day_sold(plant, stock, sold_on(plant, stock, day)), day)
                self.assertEqual(day_sold(plant, stock, max(stock) + day), day + len(stock))

    def test_travels_of_far_boxes(self):
        for seed, plant in enumerate(sample_plants(1)):
            stock = any_stock(plant, seed)
            for day in self.days(seed):
                box = max(stock) + day
                stays = travel(plant, stock, box)
                later = simulated_stocks(plant, stock_after(plant, stock, day), len(plant) + 1)
                self.assertEqual(stays, [(station, day + more) for station, more in stays_in(later)[box]])
                self.assertEqual(stays[0], (maker_on(plant, stock, day), day))
                self.assertEqual(stays[-1][0], 0)
                self.assertLess(stays[-1][1], day_sold(plant, stock, box))

    def test_each_stretch_of_a_travel(self):
        for seed, plant in enumerate(sample_plants(1)):
            stock = any_stock(plant, seed)
            for box in [min(stock), max(stock), stock[-1], max(stock) + 1, max(stock) + 10 ** 20]:
                stays = travel(plant, stock, box) + [(None, day_sold(plant, stock, box))]
                for (station, first), (above, end) in zip(stays, stays[1:]):
                    self.assertEqual(box_at(plant, stock, station, first), box)
                    self.assertEqual(box_at(plant, stock, station, end - 1), box)
                    self.assertNotEqual(box_at(plant, stock, station, end), box)
                    self.assertEqual(above, customer_of(plant, station))

    def test_reversed_chain(self):
        plant = chain_plant(40)
        stock = tuple(range(40, 0, -1))
        self.assertEqual(first_sales(plant, stock), list(stock))
        for station in stations(plant):
            expected = [(station - days, days) for days in range(station + 1)]
            self.assertEqual(travel(plant, stock, stock[station]), expected)
        expected = [(39 - days, GREATEST + days) for days in range(40)]
        self.assertEqual(travel(plant, stock, 40 + GREATEST), expected)

    def test_star_of_forty(self):
        plant = star_plant(40)
        stock = (0,) + tuple(range(39, 0, -1))
        self.assertEqual(first_sales(plant, stock), list(range(40)))
        self.assertEqual(travel(plant, stock, 39), [(1, 0), (0, 39)])
        self.assertEqual(travel(plant, stock, 40), [(39, 1), (0, 40)])

    def test_great_and_negative_boxes(self):
        for shift in [10 ** 36, -10 ** 36, 10 ** 40 - 10]:
            stock = tuple(box + shift for box in STOCK)
            self.assertEqual(first_sales(PLANT, stock), [box + shift for box in first_sales(PLANT, STOCK)])
            for day in [1, 3, 4, 5, 100, GREATEST]:
                self.assertEqual(sold_on(PLANT, stock, day), sold_on(PLANT, STOCK, day) + shift)
                self.assertEqual(day_sold(PLANT, stock, day + shift), day_sold(PLANT, STOCK, day))
                self.assertEqual(travel(PLANT, stock, day + shift), travel(PLANT, STOCK, day))

    def test_a_far_stock_may_be_passed_back(self):
        stock = stock_after(PLANT, stock_after(PLANT, STOCK, GREATEST), GREATEST)
        self.assertEqual(first_sales(PLANT, stock), sorted(stock))
        self.assertEqual(sold_on(PLANT, stock, GREATEST), 3 * GREATEST)
        self.assertEqual(day_sold(PLANT, stock, 3 * GREATEST), GREATEST)


class KindsTest(unittest.TestCase):
    def test_kinds_of_results(self):
        for stock in [STOCK, ORDERED]:
            self.assertIs(type(first_sales(PLANT, stock)), list)
            for day in [1, 4, 5, GREATEST]:
                self.assertIs(type(sold_on(PLANT, stock, day)), int)
                self.assertIs(type(day_sold(PLANT, stock, max(stock) + day)), int)
            for box in stock + (max(stock) + 1, max(stock) + GREATEST):
                self.assertIs(type(day_sold(PLANT, stock, box)), int)
                stays = travel(PLANT, stock, box)
                self.assertIs(type(stays), list)
                for stay in stays:
                    self.assertEqual([type(stay), len(stay), type(stay[0]), type(stay[1])], [tuple, 2, int, int])

    def test_returned_lists_are_new(self):
        for stock in [STOCK, ORDERED]:
            for function, arguments in [(first_sales, (PLANT, stock)), (travel, (PLANT, stock, 3)),
                                        (travel, (PLANT, stock, 10 ** 20))]:
                found, other = function(*arguments), function(*arguments)
                self.assertIsNot(found, other)
                found.clear()
                self.assertEqual(function(*arguments), other)

    def test_calls_in_between_change_nothing(self):
        calls = [lambda: first_sales(PLANT, STOCK), lambda: sold_on(PLANT, STOCK, 99),
                 lambda: day_sold(PLANT, STOCK, 99), lambda: travel(PLANT, STOCK, 99)]
        before = [call() for call in calls]
        first_sales(WIDE, (5, 4, 3, 2, 1, 0)), travel(WIDE, (5, 4, 3, 2, 1, 0), 77)
        travel(star_plant(40), tuple(range(40)), 7)
        self.assertEqual([call() for call in reversed(calls)], before[::-1])


class ErrorsTest(RefusalCase):
    def test_first_sales(self):
        self.check_refusals(first_sales, (PLANT, STOCK), OF_STOCK)

    def test_sold_on(self):
        for stock in [STOCK, ORDERED]:
            self.check_refusals(sold_on, (PLANT, stock, 3), OF_STOCK + [(NoDays, 2, NOT_FAR_DAYS)])

    def test_day_sold_and_travel(self):
        no_boxes = OTHER_KINDS + [0, -1, GREATEST + 5, GREATEST + 6, 10 ** 36, -10 ** 36, (4,), [4], "4", STOCK]
        for function in [day_sold, travel]:
            for box in [1, 4, 5, 1000, GREATEST + 4]:
                self.check_refusals(function, (PLANT, STOCK, box), OF_STOCK + [(NoBox, 2, no_boxes)])

    def test_boxes_between_those_of_the_stock(self):
        for seed, plant in enumerate(sample_plants(1)):
            stock = any_stock(plant, seed)
            newest = max(stock)
            others = [min(stock) - 1, newest + GREATEST + 1] + [box + 1 for box in stock if box != newest]
            for function in [day_sold, travel]:
                for box in stock + (newest + 1, newest + GREATEST):
                    function(plant, stock, box)
                for box in others:
                    if box not in stock:
                        self.check_refused(NoBox, function, (plant, stock, box))

    def test_true_and_false_are_no_boxes(self):
        for stock in [(0, 1, 2, 3), (1, 0, 2, 3), (-3, -2, -1, 0), (-5, 0, -1, -2)]:
            for function in [day_sold, travel]:
                for box in [True, False]:
                    self.check_refused(NoBox, function, (PLANT, stock, box))

    def test_least_and_greatest_days(self):
        for seed, plant in enumerate(sample_plants(1)):
            stock = any_stock(plant, seed)
            for day in [1, GREATEST]:
                sold_on(plant, stock, day)
            for day in [-1, 0, GREATEST + 1]:
                self.check_refused(NoDays, sold_on, (plant, stock, day))


if __name__ == "__main__":
    unittest.main()
