import random
import unittest

from pulltree.emptyings import nth_emptying
from pulltree.errors import NoDays, NoPlant, NoStation, NoStock
from pulltree.far import box_at, chain_on, maker_on, nth_made, stock_after
from pulltree.stocks import run
from near_days import NearDays
from refusals import RefusalCase
from simulation import (any_plant, any_stock, chain_plant, ordered_by_definition, sample_plants, simulate, simulate_day,
                        simulated_stocks, star_plant, stations, suppliers_of)
from values import (GREATEST, NOT_FAR_DAYS, NOT_FAR_NUMBERS, NOT_PLANTS, NOT_STATIONS, NOT_STOCKS, ORDERED, PLANT,
                    STOCK, WIDE)


def makers_of(plant):
    return [station for station in stations(plant) if not suppliers_of(plant, station)]


class ExamplesTest(unittest.TestCase):
    def test_examples_of_the_document(self):
        self.assertEqual(stock_after(PLANT, STOCK, 10 ** 9), (1000000001, 1000000003, 1000000002, 1000000004))
        self.assertEqual(chain_on(PLANT, STOCK, 3), [0, 1])
        self.assertEqual(maker_on(PLANT, STOCK, 10 ** 9), 3)
        self.assertEqual(box_at(PLANT, STOCK, 1, 4), 7)
        self.assertEqual(nth_made(PLANT, STOCK, 1, 1), 10)

    def test_plant_of_one_station(self):
        for days in [0, 1, 2, 7, GREATEST]:
            self.assertEqual(stock_after((), (-7,), days), (days - 7,))
            self.assertEqual(box_at((), (-7,), 0, days), days - 7)
            self.assertEqual(nth_made((), (-7,), 0, days), days - 6)
        for day in [1, 2, GREATEST]:
            self.assertEqual(chain_on((), (-7,), day), [0])
            self.assertEqual(maker_on((), (-7,), day), 0)


class NearDaysTest(NearDays, unittest.TestCase):
    def check_near_days(self, plant, stock, days, step):
        stocks = simulated_stocks(plant, stock, days)
        rows, last = simulate(plant, stock, days)
        made = {station: [] for station in makers_of(plant)}
        for day, (sold, chain) in enumerate(rows, start=1):
            self.assertEqual(chain_on(plant, stock, day), list(chain))
            self.assertEqual(maker_on(plant, stock, day), chain[-1])
            made[chain[-1]].append(stocks[day][chain[-1]])
        for day, later in enumerate(stocks):
            self.assertEqual(stock_after(plant, stock, day), later)
            for station in stations(plant)[day % step::step]:
                self.assertEqual(box_at(plant, stock, station, day), later[station])
        for maker, boxes in made.items():
            for number, box in enumerate(boxes):
                self.assertEqual(nth_made(plant, stock, maker, number), box)

    def test_some_hundred_days(self):
        for count in [2, 5, 13, 27, 40]:
            plant = any_plant(count, count)
            stock = any_stock(plant, count)
            for days in [500, 1999, 2000]:
                self.assertEqual(stock_after(plant, stock, days), run(plant, stock, days))


class FarDaysTest(unittest.TestCase):
    def days(self, seed):
        source = random.Random(seed)
        return [10 ** 9, GREATEST - 1, source.randrange(GREATEST), source.randrange(10 ** 18)]

    def test_two_successive_days_against_one_simulated_day(self):
        for seed, plant in enumerate(sample_plants()):
            stock = any_stock(plant, seed)
            for days in self.days(seed):
                before = stock_after(plant, stock, days)
                sold, chain, later = simulate_day(plant, before)
                self.assertEqual(stock_after(plant, stock, days + 1), later)
                self.assertEqual(chain_on(plant, stock, days + 1), chain)
                self.assertEqual(maker_on(plant, stock, days + 1), chain[-1])
                for station in stations(plant)[::9] + chain[-1:]:
                    self.assertEqual(box_at(plant, stock, station, days), before[station])
                    self.assertEqual(box_at(plant, stock, station, days + 1), later[station])

    def test_some_days_and_then_some_more(self):
        for seed, plant in enumerate(sample_plants()):
            stock = any_stock(plant, seed)
            source = random.Random(seed)
            for most in [2 * len(plant), 10 ** 12, GREATEST]:
                days = source.randint(0, most)
                for one in [0, days, most]:
                    later = stock_after(plant, stock, one)
                    self.assertEqual(stock_after(plant, later, most - one), stock_after(plant, stock, most))
                    if most > one:
                        self.assertEqual(chain_on(plant, later, most - one), chain_on(plant, stock, most))

    def test_boxes_are_those_of_the_last_n_days(self):
        for seed, plant in enumerate(sample_plants()):
            stock = any_stock(plant, seed)
            count = len(stock)
            for days in self.days(seed) + [count, count + 1, GREATEST]:
                later = stock_after(plant, stock, days)
                newest = max(stock) + days
                self.assertEqual(sorted(later), list(range(newest - count + 1, newest + 1)))
                self.assertIs(ordered_by_definition(plant, later), True)

    def test_every_new_box_is_sold_n_days_after_it_was_made(self):
        for seed, plant in enumerate(sample_plants()):
            stock = any_stock(plant, seed)
            count = len(stock)
            for day in [1, 2, count, count + 1] + self.days(seed):
                box = max(stock) + day
                maker = maker_on(plant, stock, day)
                self.assertEqual(box_at(plant, stock, maker, day), box)
                if day + count - 1 <= GREATEST:
                    self.assertEqual(box_at(plant, stock, 0, day + count - 1), box)

    def test_nth_made_is_made_by_this_maker(self):
        for seed, plant in enumerate(sample_plants(1)):
            stock = any_stock(plant, seed)
            source = random.Random(seed)
            for maker in makers_of(plant)[::4]:
                for number in [0, 1, source.randrange(10 ** 9), source.randrange(10 ** 26)]:
                    box = nth_made(plant, stock, maker, number)
                    day = box - max(stock)
                    self.assertEqual(nth_emptying(plant, stock, maker, number), day)
                    self.assertEqual(maker_on(plant, stock, day), maker)
                    self.assertEqual(box_at(plant, stock, maker, day), box)

    def test_reversed_chain(self):
        plant = chain_plant(40)
        stock = tuple(range(40, 0, -1))
        for days in [40, 41, 10 ** 12, GREATEST]:
            self.assertEqual(stock_after(plant, stock, days), tuple(range(days + 1, days + 41)))
            self.assertEqual(chain_on(plant, stock, days), list(range(40)))
        self.assertEqual(nth_made(plant, stock, 39, GREATEST), GREATEST + 41)

    def test_great_and_negative_boxes(self):
        for shift in [10 ** 36, -10 ** 36, 10 ** 40 - 10]:
            stock = tuple(box + shift for box in STOCK)
            for days in [0, 1, 3, 4, 5, 10 ** 12, GREATEST]:
                later = stock_after(PLANT, STOCK, days)
                self.assertEqual(stock_after(PLANT, stock, days), tuple(box + shift for box in later))
                self.assertEqual(nth_made(PLANT, stock, 3, days), nth_made(PLANT, STOCK, 3, days) + shift)

    def test_a_far_stock_may_be_passed_back(self):
        stock = STOCK
        for times in range(1, 4):
            stock = stock_after(PLANT, stock, GREATEST)
            self.assertEqual(max(stock), 4 + times * GREATEST)


class KindsTest(unittest.TestCase):
    def test_kinds_of_results(self):
        for day in [1, 2, 3, 4, 5, GREATEST]:
            self.assertIs(type(stock_after(PLANT, STOCK, day)), tuple)
            self.assertIs(type(chain_on(PLANT, STOCK, day)), list)
            for found in [maker_on(PLANT, STOCK, day), box_at(PLANT, STOCK, 1, day), nth_made(PLANT, STOCK, 1, day)]:
                self.assertIs(type(found), int)

    def test_returned_lists_are_new(self):
        for stock in [STOCK, ORDERED]:
            for day in [1, 2, 3, 10, GREATEST]:
                chain = chain_on(PLANT, stock, day)
                other = chain_on(PLANT, stock, day)
                self.assertIsNot(chain, other)
                chain.clear()
                self.assertEqual(chain_on(PLANT, stock, day), other)

    def test_calls_in_between_change_nothing(self):
        before = [stock_after(PLANT, STOCK, 100), chain_on(PLANT, STOCK, 100), nth_made(PLANT, STOCK, 3, 100)]
        stock_after(WIDE, (5, 4, 3, 2, 1, 0), 100), chain_on(WIDE, (5, 4, 3, 2, 1, 0), 100)
        stock_after(star_plant(40), tuple(range(40, 0, -1)), 100)
        after = [stock_after(PLANT, STOCK, 100), chain_on(PLANT, STOCK, 100), nth_made(PLANT, STOCK, 3, 100)]
        self.assertEqual(after, before)


class ErrorsTest(RefusalCase):
    plant_and_stock = [(NoPlant, 0, NOT_PLANTS), (NoStock, 1, NOT_STOCKS)]

    def test_stock_after(self):
        self.check_refusals(stock_after, (PLANT, STOCK, 5), self.plant_and_stock + [(NoDays, 2, NOT_FAR_NUMBERS)])

    def test_chain_on_and_maker_on(self):
        for function in [chain_on, maker_on]:
            for stock in [STOCK, ORDERED]:
                self.check_refusals(function, (PLANT, stock, 5), self.plant_and_stock + [(NoDays, 2, NOT_FAR_DAYS)])

    def test_box_at(self):
        self.check_refusals(box_at, (PLANT, STOCK, 2, 5), self.plant_and_stock + [
            (NoStation, 2, NOT_STATIONS), (NoDays, 3, NOT_FAR_NUMBERS)])

    def test_nth_made(self):
        for maker in [1, 3]:
            self.check_refusals(nth_made, (PLANT, STOCK, maker, 5), self.plant_and_stock + [
                (NoStation, 2, NOT_STATIONS + [0, 2]), (NoDays, 3, NOT_FAR_NUMBERS)])

    def test_least_and_greatest_numbers(self):
        for seed, plant in enumerate(sample_plants(1)):
            stock = any_stock(plant, seed)
            for number in [0, 1, GREATEST]:
                stock_after(plant, stock, number)
                box_at(plant, stock, len(plant), number)
                nth_made(plant, stock, len(plant), number)
            for number in [-1, GREATEST + 1]:
                self.check_refused(NoDays, stock_after, (plant, stock, number))
                self.check_refused(NoDays, box_at, (plant, stock, len(plant), number))
                self.check_refused(NoDays, nth_made, (plant, stock, len(plant), number))
            for function in [chain_on, maker_on]:
                for number in [1, GREATEST]:
                    function(plant, stock, number)
                for number in [-1, 0, GREATEST + 1]:
                    self.check_refused(NoDays, function, (plant, stock, number))

    def test_stations_that_are_no_makers(self):
        for plant in sample_plants(1):
            stock = tuple(stations(plant))
            for station in range(-1, len(plant) + 2):
                if station in makers_of(plant):
                    nth_made(plant, stock, station, 0)
                else:
                    self.check_refused(NoStation, nth_made, (plant, stock, station, 0))


if __name__ == "__main__":
    unittest.main()
