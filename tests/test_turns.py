import math
import random
import unittest
from fractions import Fraction

from pulltree.errors import NoDays, NoPlant, NoStation, NoStock
from pulltree.turns import mean_time, turn_chain, turn_days, turn_sold_on, turn_stock_after, turn_time
from near_days import NearDays
from refusals import RefusalCase
from simulation import (all_plants, any_plant, any_stock, chain_plant, customer_of, sample_plants, simulate,
                        simulate_turns, star_plant, stations, suppliers_of, walk_to_shop)
from values import (GREATEST, NOT_FAR_DAYS, NOT_FAR_NUMBERS, NOT_PLANTS, NOT_STATIONS, NOT_STOCKS, ORDERED, PLANT,
                    STOCK, WIDE)

PLANT_AND_STOCK = [(NoPlant, 0, NOT_PLANTS), (NoStock, 1, NOT_STOCKS)]


def makers_of(plant):
    return [station for station in stations(plant) if not suppliers_of(plant, station)]


def days_by_definition(plant, station):
    """P of a station."""
    if station == 0:
        return 1
    above = customer_of(plant, station)
    return days_by_definition(plant, above) * len(suppliers_of(plant, above))


def first_day(plant, station):
    """The first day on which a station is emptied."""
    if station == 0:
        return 1
    above = customer_of(plant, station)
    return first_day(plant, above) + days_by_definition(plant, above) * suppliers_of(plant, above).index(station)


class ExamplesTest(unittest.TestCase):
    def test_examples_of_the_document(self):
        self.assertEqual(turn_days(WIDE, 4), 4)
        self.assertEqual(turn_time(PLANT, 3), 5)
        self.assertEqual(turn_chain(PLANT, 2), [0, 2, 3])
        self.assertEqual(turn_stock_after(PLANT, STOCK, 3), (5, 7, 1, 6))
        self.assertEqual([turn_sold_on(PLANT, STOCK, day) for day in [1, 2, 3, 4]], [4, 3, 2, 5])
        self.assertEqual(mean_time(PLANT), (4, 1))

    def test_plant_of_one_station(self):
        self.assertEqual(turn_days((), 0), 1)
        self.assertEqual(turn_time((), 0), 1)
        self.assertEqual(mean_time(()), (1, 1))
        for day in [1, 2, 7, GREATEST]:
            self.assertEqual(turn_chain((), day), [0])
            self.assertEqual(turn_stock_after((), (-7,), day), (day - 7,))
            self.assertEqual(turn_sold_on((), (-7,), day), day - 8)
        self.assertEqual(turn_stock_after((), (-7,), 0), (-7,))


class NearDaysTest(NearDays, unittest.TestCase):
    def check_near_days(self, plant, stock, days, step):
        rows, stocks = simulate_turns(plant, stock, days)
        for day, (sold, chain) in enumerate(rows, start=1):
            self.assertEqual(turn_chain(plant, day), list(chain))
            self.assertEqual(turn_sold_on(plant, stock, day), sold)
        for day, later in enumerate(stocks):
            self.assertEqual(turn_stock_after(plant, stock, day), later)

    def test_some_hundred_days(self):
        for count in [2, 5, 13, 27, 40]:
            plant = any_plant(count, count)
            self.check_near_days(plant, any_stock(plant, count), 700, 1)

    def test_the_rules_differ(self):
        rows, stocks = simulate_turns(PLANT, STOCK, 9)
        self.assertNotEqual(rows, simulate(PLANT, STOCK, 9)[0])


class DaysTest(unittest.TestCase):
    def test_turn_days_and_turn_time(self):
        for plant in sample_plants() + all_plants(5):
            for station in stations(plant):
                self.assertEqual(turn_days(plant, station), days_by_definition(plant, station))
            for maker in makers_of(plant):
                expected = sum(days_by_definition(plant, station) for station in walk_to_shop(plant, maker))
                self.assertEqual(turn_time(plant, maker), expected)

    def test_each_station_is_emptied_every_so_many_days(self):
        for plant in all_plants(5) + [WIDE, any_plant(9, 1), star_plant(12), chain_plant(12)]:
            rows, stocks = simulate_turns(plant, tuple(stations(plant)), 100)
            for station in stations(plant):
                days = [day for day, (sold, chain) in enumerate(rows) if station in chain]
                steps = {later - day for day, later in zip(days, days[1:])}
                self.assertLessEqual(steps, {turn_days(plant, station)})

    def test_each_box_of_a_maker_is_sold_after_its_time(self):
        for seed, plant in enumerate(all_plants(5) + [WIDE, any_plant(9, 1), star_plant(12), chain_plant(12)]):
            stock = any_stock(plant, seed)
            rows, stocks = simulate_turns(plant, stock, 150)
            sold_on = {sold: day for day, (sold, chain) in enumerate(rows, start=1)}
            for day, (sold, chain) in enumerate(rows, start=1):
                end = day + turn_time(plant, chain[-1])
                if end <= 150:
                    self.assertEqual(sold_on[max(stock) + day], end)

    def test_mean_time(self):
        for plant in sample_plants() + all_plants(6):
            self.assertEqual(mean_time(plant), (len(plant) + 1, 1))
            mean = sum(Fraction(turn_time(plant, maker), turn_days(plant, maker)) for maker in makers_of(plant))
            self.assertEqual(mean, len(plant) + 1)


class FarDaysTest(unittest.TestCase):
    def days(self, seed):
        source = random.Random(seed)
        return [10 ** 9, GREATEST - 1, source.randrange(GREATEST), source.randrange(10 ** 18),
                source.randrange(10 ** 4)]

    def check_same(self, plant, stock, day, near, rows, stocks):
        self.assertEqual(turn_chain(plant, day), list(rows[near - 1][1]))
        self.assertEqual(turn_sold_on(plant, stock, day), rows[near - 1][0] + day - near)
        later = tuple(box + day - near for box in stocks[near])
        self.assertEqual(turn_stock_after(plant, stock, day), later)

    def test_far_days_repeat_near_ones(self):
        tried = 0
        for seed, plant in enumerate(sample_plants()):
            period = math.lcm(*[days_by_definition(plant, station) for station in stations(plant)])
            longest = max(turn_time(plant, maker) for maker in makers_of(plant))
            if longest + 2 * period <= 600:
                tried += 1
                stock = any_stock(plant, seed)
                # No first box is left, from then on all comes again after each period, with greater boxes.
                rows, stocks = simulate_turns(plant, stock, longest + 2 * period)
                for day in self.days(seed) + [GREATEST]:
                    if day > longest + 2 * period:
                        near = longest + period + (day - longest) % period
                        self.check_same(plant, stock, day, near, rows, stocks)
        self.assertGreater(tried, 80)

    def test_chains_against_counted_turns(self):
        for seed, plant in enumerate(sample_plants()):
            for day in self.days(seed) + [GREATEST]:
                if day > 0:
                    chain = [0]
                    number = day
                    while suppliers_of(plant, chain[-1]):
                        givers = suppliers_of(plant, chain[-1])
                        turn = (number - 1) % len(givers)
                        number = (number - 1 - turn) // len(givers) + 1
                        chain.append(givers[turn])
                    self.assertEqual(turn_chain(plant, day), chain)

    def test_two_successive_days(self):
        for seed, plant in enumerate(sample_plants()):
            stock = any_stock(plant, seed)
            for days in self.days(seed):
                before = turn_stock_after(plant, stock, days)
                chain = turn_chain(plant, days + 1)
                later = list(before)
                for station, giver in zip(chain, chain[1:]):
                    later[station] = before[giver]
                later[chain[-1]] = max(stock) + days + 1
                self.assertEqual(turn_stock_after(plant, stock, days + 1), tuple(later))
                self.assertEqual(turn_sold_on(plant, stock, days + 1), before[0])

    def test_first_boxes_stay_until_the_first_turn_of_their_station(self):
        deep = tuple(max(0, index // 2 * 2 - 1) for index in range(39))
        for plant in [deep] + sample_plants(1):
            stock = tuple(range(-len(plant), 1))
            for station in stations(plant):
                first = first_day(plant, station)
                if first <= GREATEST:
                    self.assertIn(station, turn_chain(plant, first))
                    self.assertEqual(turn_stock_after(plant, stock, first - 1)[station], stock[station])
                    self.assertNotEqual(turn_stock_after(plant, stock, first)[station], stock[station])

    def test_chain_and_star_of_forty(self):
        stock = tuple(range(40, 0, -1))
        for days in [0, 1, 39, 40, 41, 10 ** 12, GREATEST]:
            made = list(range(41, 41 + min(days, 40)))
            expected = (list(stock) + [0] * 40)[days:40] + [max(0, days - 40) + box for box in made]
            self.assertEqual(turn_stock_after(chain_plant(40), stock, days), tuple(expected))
        for day in [1, 39, 40, 10 ** 12, GREATEST]:
            self.assertEqual(turn_chain(chain_plant(40), day), list(range(40)))
            self.assertEqual(turn_chain(star_plant(40), day), [0, (day - 1) % 39 + 1])
        self.assertEqual(turn_time(star_plant(40), 39), 40)
        self.assertEqual(turn_time(chain_plant(40), 39), 40)

    def test_great_and_negative_boxes(self):
        for shift in [10 ** 36, -10 ** 36, 10 ** 40 - 10]:
            stock = tuple(box + shift for box in STOCK)
            for day in [1, 3, 4, 5, 10 ** 12, GREATEST]:
                later = tuple(box + shift for box in turn_stock_after(PLANT, STOCK, day))
                self.assertEqual(turn_stock_after(PLANT, stock, day), later)
                self.assertEqual(turn_sold_on(PLANT, stock, day), turn_sold_on(PLANT, STOCK, day) + shift)


class KindsTest(unittest.TestCase):
    def test_kinds_of_results(self):
        self.assertIs(type(turn_days(PLANT, 3)), int)
        self.assertIs(type(turn_time(PLANT, 3)), int)
        self.assertEqual([type(part) for part in mean_time(PLANT)], [int, int])
        self.assertIs(type(mean_time(PLANT)), tuple)
        for day in [1, 2, 5, GREATEST]:
            self.assertIs(type(turn_chain(PLANT, day)), list)
            self.assertIs(type(turn_stock_after(PLANT, STOCK, day)), tuple)
            self.assertIs(type(turn_sold_on(PLANT, STOCK, day)), int)

    def test_returned_lists_are_new(self):
        for day in [1, 2, 3, GREATEST]:
            chain, other = turn_chain(PLANT, day), turn_chain(PLANT, day)
            self.assertIsNot(chain, other)
            chain.clear()
            self.assertEqual(turn_chain(PLANT, day), other)

    def test_calls_in_between_change_nothing(self):
        calls = [lambda: turn_chain(PLANT, 99), lambda: turn_stock_after(PLANT, STOCK, 99), lambda: turn_days(PLANT, 3),
                 lambda: turn_time(PLANT, 3), lambda: turn_sold_on(PLANT, STOCK, 99), lambda: mean_time(PLANT)]
        before = [call() for call in calls]
        turn_chain(WIDE, 5), turn_stock_after(WIDE, (5, 4, 3, 2, 1, 0), 77)
        turn_sold_on(star_plant(40), tuple(range(40)), 8)
        self.assertEqual([call() for call in reversed(calls)], before[::-1])


class ErrorsTest(RefusalCase):
    def test_turn_days(self):
        for station in stations(PLANT):
            self.check_refusals(turn_days, (PLANT, station), [(NoPlant, 0, NOT_PLANTS), (NoStation, 1, NOT_STATIONS)])

    def test_turn_time(self):
        for maker in [1, 3]:
            self.check_refusals(turn_time, (PLANT, maker), [
                (NoPlant, 0, NOT_PLANTS), (NoStation, 1, NOT_STATIONS + [0, 2])])

    def test_turn_chain(self):
        self.check_refusals(turn_chain, (PLANT, 5), [(NoPlant, 0, NOT_PLANTS), (NoDays, 1, NOT_FAR_DAYS)])

    def test_turn_stock_after(self):
        for stock in [STOCK, ORDERED]:
            self.check_refusals(turn_stock_after, (PLANT, stock, 5), PLANT_AND_STOCK + [(NoDays, 2, NOT_FAR_NUMBERS)])

    def test_turn_sold_on(self):
        for stock in [STOCK, ORDERED]:
            self.check_refusals(turn_sold_on, (PLANT, stock, 5), PLANT_AND_STOCK + [(NoDays, 2, NOT_FAR_DAYS)])

    def test_mean_time(self):
        self.check_refusals(mean_time, (PLANT,), [(NoPlant, 0, NOT_PLANTS)])

    def test_least_and_greatest_numbers(self):
        for seed, plant in enumerate(sample_plants(1)):
            stock = any_stock(plant, seed)
            for day in [1, GREATEST]:
                turn_chain(plant, day), turn_sold_on(plant, stock, day), turn_stock_after(plant, stock, day)
            turn_stock_after(plant, stock, 0)
            for day in [-1, 0, GREATEST + 1]:
                self.check_refused(NoDays, turn_chain, (plant, day))
                self.check_refused(NoDays, turn_sold_on, (plant, stock, day))
            for days in [-1, GREATEST + 1]:
                self.check_refused(NoDays, turn_stock_after, (plant, stock, days))
            for station in range(-1, len(plant) + 2):
                if station not in stations(plant):
                    self.check_refused(NoStation, turn_days, (plant, station))
                if station not in makers_of(plant):
                    self.check_refused(NoStation, turn_time, (plant, station))


if __name__ == "__main__":
    unittest.main()
