import itertools
import random
import unittest
from fractions import Fraction

from pulltree.emptyings import emptied, emptied_within, nth_emptying, share
from pulltree.errors import NoDays, NoPlant, NoStation, NoStock, NotOrdered
from pulltree.far import stock_after
from near_days import NearDays
from refusals import RefusalCase
from simulation import (all_patterns, all_plants, any_stock, chain_plant, customer_of, ordered_by_definition,
                        ordered_stock, sample_plants, simulate, simulate_day, star_plant, stations, stations_below,
                        suppliers_of)
from values import (GREATEST, NOT_FAR_NUMBERS, NOT_ORDERED, NOT_PLANTS, NOT_STATIONS, NOT_STOCKS, ORDERED, PLANT, STOCK,
                    WIDE)


def emptying_days(rows, station):
    return [day for day, (sold, chain) in enumerate(rows, start=1) if station in chain]


def size_of(plant, station):
    return len(stations_below(plant, station)) + 1


class ExamplesTest(unittest.TestCase):
    def test_examples_of_the_document(self):
        self.assertEqual(emptied(PLANT, STOCK, 1, 6), 2)
        self.assertEqual(nth_emptying(PLANT, STOCK, 1, 10 ** 9), 3000000003)
        self.assertEqual(share(WIDE, 3), (3, 10))
        self.assertEqual(emptied_within(PLANT, ORDERED, 0, 2, 4), 2)

    def test_plant_of_one_station(self):
        for number in [0, 1, 7, GREATEST]:
            self.assertEqual(emptied((), (7,), 0, number), number)
            self.assertEqual(nth_emptying((), (7,), 0, number), number + 1)
        self.assertEqual(share((), 0), (1, 1))


class NearDaysTest(NearDays, unittest.TestCase):
    def check_near_days(self, plant, stock, days, step):
        rows, later = simulate(plant, stock, days)
        for station in stations(plant):
            expected = emptying_days(rows, station)
            for many in range(0, days + 1, step):
                before = len([day for day in expected if day <= many])
                self.assertEqual(emptied(plant, stock, station, many), before)
            for number, day in enumerate(expected):
                self.assertEqual(nth_emptying(plant, stock, station, number), day)


class FarDaysTest(unittest.TestCase):
    def numbers(self, seed):
        source = random.Random(seed)
        return [10 ** 9, GREATEST - 1, source.randrange(GREATEST), source.randrange(10 ** 18), source.randrange(1000)]

    def test_one_day_more_against_one_simulated_day(self):
        for seed, plant in enumerate(sample_plants(1)):
            stock = any_stock(plant, seed)
            for days in self.numbers(seed)[:4]:
                sold, chain, later = simulate_day(plant, stock_after(plant, stock, days))
                for station in stations(plant)[::5] + chain[-1:]:
                    more = emptied(plant, stock, station, days + 1) - emptied(plant, stock, station, days)
                    self.assertEqual(more, 1 if station in chain else 0)

    def test_some_days_and_then_some_more(self):
        for seed, plant in enumerate(sample_plants(1)):
            stock = any_stock(plant, seed)
            source = random.Random(seed)
            for most in [2 * len(plant), 10 ** 12, GREATEST]:
                days = source.randint(0, most)
                more = most - days
                later = stock_after(plant, stock, days)
                for station in stations(plant)[::6] + [len(plant)]:
                    both = emptied(plant, stock, station, days) + emptied(plant, later, station, more)
                    self.assertEqual(emptied(plant, stock, station, most), both)

    def test_suppliers_together_are_emptied_as_often_as_their_customer(self):
        for seed, plant in enumerate(sample_plants(1)):
            stock = any_stock(plant, seed)
            for days in self.numbers(seed) + [1, len(plant), GREATEST]:
                times = [emptied(plant, stock, station, days) for station in stations(plant)]
                self.assertEqual(times[0], days)
                for station in stations(plant):
                    if suppliers_of(plant, station):
                        self.assertEqual(sum(times[other] for other in suppliers_of(plant, station)), times[station])

    def test_nth_emptying_is_the_day_on_which_emptied_grows(self):
        for seed, plant in enumerate(sample_plants(1)):
            stock = any_stock(plant, seed)
            source = random.Random(seed)
            for station in stations(plant)[::6] + [len(plant)]:
                times = emptied(plant, stock, station, GREATEST)
                for number in [0, 1, times - 1, source.randrange(times), source.randrange(10 ** 9)]:
                    day = nth_emptying(plant, stock, station, number)
                    self.assertEqual(emptied(plant, stock, station, day), number + 1)
                    self.assertEqual(emptied(plant, stock, station, day - 1), number)

    def test_greatest_numbers_of_emptyings(self):
        for seed, plant in enumerate(sample_plants(1)):
            stock = any_stock(plant, seed)
            for station in [0, len(plant)]:
                top, bottom = share(plant, station)
                day = nth_emptying(plant, stock, station, GREATEST)
                later = nth_emptying(plant, stock_after(plant, stock, 10 ** 9), station,
                                     GREATEST - emptied(plant, stock, station, 10 ** 9))
                self.assertEqual(later, day - 10 ** 9)
                self.assertLess(nth_emptying(plant, stock, station, GREATEST - 1), day)
                self.assertLess(abs(day - GREATEST * bottom // top), 10 ** 9)

    def test_reversed_chain(self):
        plant = chain_plant(40)
        stock = tuple(range(40, 0, -1))
        for station in stations(plant):
            self.assertEqual(emptied(plant, stock, station, GREATEST), GREATEST)
            self.assertEqual(nth_emptying(plant, stock, station, GREATEST), GREATEST + 1)

    def test_great_and_negative_boxes(self):
        for shift in [10 ** 36, -10 ** 36, 10 ** 40 - 10]:
            stock = tuple(box + shift for box in STOCK)
            for days in [0, 1, 5, 10 ** 30]:
                self.assertEqual(emptied(PLANT, stock, 1, days), emptied(PLANT, STOCK, 1, days))
                self.assertEqual(nth_emptying(PLANT, stock, 3, days), nth_emptying(PLANT, STOCK, 3, days))


class ShareTest(unittest.TestCase):
    def share_of(self, plant, station):
        """Of a customer's emptyings each supplier has a share by its size."""
        if station == 0:
            return Fraction(1)
        above = customer_of(plant, station)
        return self.share_of(plant, above) * Fraction(size_of(plant, station), size_of(plant, above) - 1)

    def check_plant(self, plant):
        for station in stations(plant):
            found = share(plant, station)
            self.assertIs(type(found), tuple)
            self.assertEqual([type(part) for part in found], [int, int])
            expected = self.share_of(plant, station)
            self.assertEqual(found, (expected.numerator, expected.denominator))

    def test_every_small_plant(self):
        for count in range(1, 7):
            for plant in all_plants(count):
                self.check_plant(plant)

    def test_plants_of_all_sizes(self):
        for plant in sample_plants():
            self.check_plant(plant)

    def test_chain_and_star(self):
        for count in range(2, 41):
            self.assertEqual(share(chain_plant(count), count - 1), (1, 1))
            self.assertEqual(share(star_plant(count), count - 1), (1, count - 1))
            self.assertEqual(share(star_plant(count), 0), (1, 1))

    def test_share_of_some_simulated_days(self):
        for plant in [PLANT, WIDE, (0, 0, 0, 1, 2, 2), (0, 1, 1, 2, 2, 0)]:
            stock = ordered_stock(plant, 1)
            rows, later = simulate(plant, stock, 720)
            for station in stations(plant):
                top, bottom = share(plant, station)
                self.assertEqual(720 % bottom, 0)
                self.assertEqual(len(emptying_days(rows, station)), 720 // bottom * top)

    def test_share_of_very_many_days(self):
        for seed, plant in enumerate(sample_plants(1)):
            stock = any_stock(plant, seed)
            for station in stations(plant)[::7] + [len(plant)]:
                top, bottom = share(plant, station)
                times = emptied(plant, stock, station, GREATEST)
                self.assertLess(abs(times * bottom - GREATEST * top), 10 ** 4 * bottom)


class EmptiedWithinTest(unittest.TestCase):
    def check_stock(self, plant, stock, days):
        rows, later = simulate(plant, stock, days)
        for supplier in stations(plant)[1:]:
            station = customer_of(plant, supplier)
            chains = [chain for sold, chain in rows if station in chain]
            for many in range(len(chains) + 1):
                expected = len([chain for chain in chains[:many] if supplier in chain])
                self.assertEqual(emptied_within(plant, stock, station, supplier, many), expected)

    def test_every_small_ordered_stock(self):
        for count in range(1, 6):
            for plant in all_plants(count):
                for stock in all_patterns(plant):
                    if ordered_by_definition(plant, stock):
                        self.check_stock(plant, stock, 12)

    def test_plants_of_all_sizes(self):
        for seed, plant in enumerate(sample_plants(1)):
            self.check_stock(plant, ordered_stock(plant, seed), min(30, 2 * len(plant) + 3))

    def test_each_supplier_is_emptied_as_often_as_its_size_among_any_s_minus_1_emptyings(self):
        for seed, plant in enumerate(sample_plants(1)):
            stock = ordered_stock(plant, seed)
            source = random.Random(seed)
            for supplier in stations(plant)[1::3]:
                station = customer_of(plant, supplier)
                total = size_of(plant, station) - 1
                rounds = source.randrange(GREATEST // total)
                for start in [0, 1, source.randrange(50), source.randrange(GREATEST - total * rounds)]:
                    first = emptied_within(plant, stock, station, supplier, start)
                    for times in [1, rounds]:
                        until = start + times * total
                        if until <= GREATEST:
                            more = emptied_within(plant, stock, station, supplier, until) - first
                            self.assertEqual(more, times * size_of(plant, supplier))

    def test_the_same_by_simulated_days(self):
        for plant in [PLANT, WIDE, (0, 0, 0, 1, 2, 2), (0, 1, 1, 2, 2, 0), star_plant(5)]:
            stock = ordered_stock(plant, 4)
            rows, later = simulate(plant, stock, 80)
            for supplier in stations(plant)[1:]:
                station = customer_of(plant, supplier)
                used = [supplier in chain for sold, chain in rows if station in chain]
                total = size_of(plant, station) - 1
                for start in range(len(used) - total + 1):
                    self.assertEqual(sum(used[start:start + total]), size_of(plant, supplier))

    def test_suppliers_together(self):
        for seed, plant in enumerate(sample_plants(1)):
            stock = ordered_stock(plant, seed)
            source = random.Random(seed)
            for many in [0, 1, 2, source.randrange(10 ** 12), GREATEST]:
                for station in stations(plant)[::4]:
                    times = [emptied_within(plant, stock, station, supplier, many)
                             for supplier in suppliers_of(plant, station)]
                    self.assertTrue(sum(times) == many or times == [])

    def test_emptyings_of_the_station_in_days(self):
        for seed, plant in enumerate(sample_plants(1)):
            stock = ordered_stock(plant, seed)
            for days in [5, 10 ** 20 + seed]:
                for supplier in stations(plant)[1::5]:
                    station = customer_of(plant, supplier)
                    many = emptied(plant, stock, station, days)
                    self.assertEqual(emptied_within(plant, stock, station, supplier, many),
                                     emptied(plant, stock, supplier, days))


class KindsTest(unittest.TestCase):
    def test_kinds_of_results(self):
        for days in [0, 1, 2, 3, 100, GREATEST]:
            for station in stations(PLANT):
                self.assertIs(type(emptied(PLANT, STOCK, station, days)), int)
                self.assertIs(type(nth_emptying(PLANT, STOCK, station, days)), int)
            self.assertIs(type(emptied_within(PLANT, ORDERED, 0, 1, days)), int)

    def test_calls_in_between_change_nothing(self):
        calls = [lambda: emptied(PLANT, STOCK, 3, 100), lambda: nth_emptying(PLANT, STOCK, 3, 100),
                 lambda: share(PLANT, 3), lambda: emptied_within(PLANT, ORDERED, 0, 2, 100)]
        before = [call() for call in calls]
        for one, other in itertools.product(calls, repeat=2):
            one(), other(), emptied(WIDE, (5, 4, 3, 2, 1, 0), 5, 77), share(WIDE, 5)
        self.assertEqual([call() for call in calls], before)


class ErrorsTest(RefusalCase):
    plant_and_stock = [(NoPlant, 0, NOT_PLANTS), (NoStock, 1, NOT_STOCKS)]

    def test_emptied_and_nth_emptying(self):
        for function in [emptied, nth_emptying]:
            for stock in [STOCK, ORDERED]:
                self.check_refusals(function, (PLANT, stock, 1, 6), self.plant_and_stock + [
                    (NoStation, 2, NOT_STATIONS), (NoDays, 3, NOT_FAR_NUMBERS)])

    def test_share(self):
        self.check_refusals(share, (PLANT, 1), [(NoPlant, 0, NOT_PLANTS), (NoStation, 1, NOT_STATIONS)])

    def test_emptied_within(self):
        for station, suppliers in [(0, [1, 2]), (2, [3])]:
            others = NOT_STATIONS + [other for other in range(4) if other not in suppliers]
            for supplier in suppliers:
                self.check_refusals(emptied_within, (PLANT, ORDERED, station, supplier, 4), self.plant_and_stock + [
                    (NoStation, 2, NOT_STATIONS), (NoStation, 3, others), (NoDays, 4, NOT_FAR_NUMBERS),
                    (NotOrdered, 1, NOT_ORDERED)])

    def test_a_maker_has_no_supplier(self):
        for maker in [1, 3]:
            for supplier in [0, 1, 2, 3] + NOT_STATIONS:
                for stock in [ORDERED, STOCK]:
                    for many in [0, 1, -1, None]:
                        self.check_refused(NoStation, emptied_within, (PLANT, stock, maker, supplier, many))
        self.check_refused(NoStation, emptied_within, ((), (7,), 0, 0, 1))
        self.check_refused(NoStation, emptied_within, ((), (7,), 0, 1, 1))

    def test_a_supplier_of_a_supplier_is_none(self):
        plant = chain_plant(40)
        stock = tuple(range(40))
        for station in range(39):
            self.assertEqual(emptied_within(plant, stock, station, station + 1, GREATEST), GREATEST)
            for supplier in [station - 1, station, station + 2, 40]:
                self.check_refused(NoStation, emptied_within, (plant, stock, station, supplier, 1))

    def test_least_and_greatest_numbers(self):
        for seed, plant in enumerate(sample_plants(1)):
            stock = ordered_stock(plant, seed)
            calls = [(emptied, (plant, stock, len(plant))), (nth_emptying, (plant, stock, len(plant)))]
            if plant:
                calls.append((emptied_within, (plant, stock, customer_of(plant, len(plant)), len(plant))))
            for function, arguments in calls:
                for number in [0, 1, GREATEST]:
                    function(*arguments, number)
                for number in [-1, GREATEST + 1]:
                    self.check_refused(NoDays, function, arguments + (number,))
            for station in [-1, len(plant) + 1]:
                self.check_refused(NoStation, emptied, (plant, stock, station, 1))
                self.check_refused(NoStation, nth_emptying, (plant, stock, station, 1))
                self.check_refused(NoStation, share, (plant, station))


if __name__ == "__main__":
    unittest.main()
