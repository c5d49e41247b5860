import itertools
import unittest

from pulltree.errors import NoPlant, NoStation
from pulltree.plants import customer, is_plant, makers, path_to_shop, size, suppliers
from refusals import RefusalCase
from simulation import (all_plants, any_plant, chain_plant, customer_of, plant_by_definition, sample_plants, star_plant,
                        stations, stations_below, suppliers_of, walk_to_shop)
from values import NOT_PLANTS, NOT_STATIONS, PLANT, WIDE

OF_STATION = [customer, suppliers, size, path_to_shop]


class ExamplesTest(unittest.TestCase):
    def test_examples_of_the_document(self):
        self.assertIs(is_plant((0, 2)), False)
        self.assertEqual(customer(PLANT, 3), 2)
        self.assertEqual(suppliers(PLANT, 0), [1, 2])
        self.assertEqual(makers(PLANT), [1, 3])
        self.assertEqual(size(WIDE, 1), 3)
        self.assertEqual(path_to_shop(PLANT, 3), [3, 2, 0])

    def test_plant_of_one_station(self):
        self.assertIs(is_plant(()), True)
        self.assertIsNone(customer((), 0))
        self.assertEqual(suppliers((), 0), [])
        self.assertEqual(makers(()), [0])
        self.assertEqual(size((), 0), 1)
        self.assertEqual(path_to_shop((), 0), [0])


class IsPlantTest(unittest.TestCase):
    def test_plants(self):
        for plant in sample_plants():
            self.assertIs(is_plant(plant), True)

    def test_forty_stations_and_no_more(self):
        for make in [chain_plant, star_plant]:
            self.assertIs(is_plant(make(40)), True)
            self.assertIs(is_plant(make(41)), False)
            self.assertIs(is_plant(make(201)), False)

    def test_all_short_tuples(self):
        for length in range(5):
            for value in itertools.product([-1, 0, 1, 2, 3, 4, True, False, None, "0"], repeat=length):
                self.assertIs(is_plant(value), plant_by_definition(value), value)

    def test_one_integer_replaced_added_or_removed(self):
        for count in [2, 3, 8, 39, 40]:
            plant = any_plant(count, count)
            for at in range(len(plant)):
                for item in [-1, 0, at, at + 1, 10 ** 36, -10 ** 36, True, False, None, "0", (), (0,), [0], {}, b"0"]:
                    self.check(plant[:at] + (item,) + plant[at + 1:])
                    self.check(plant[:at] + (item,) + plant[at:])
                    self.check(plant + (item,))
                self.check(plant[:at] + plant[at + 1:])

    def check(self, value):
        self.assertIs(is_plant(value), plant_by_definition(value), value)

    def test_one_item_replaced_in_plants_of_all_sizes(self):
        for plant in sample_plants():
            for at in range(len(plant)):
                for other in [0, 1, at - 1, at, at + 1, -1, 40, 10 ** 36, -10 ** 36, True, False, None, "0", (), [0]]:
                    value = plant[:at] + (other,) + plant[at + 1:]
                    self.assertIs(is_plant(value), plant_by_definition(value), value)

    def test_items_of_other_classes(self):
        class Zero:
            def __eq__(self, other):
                return True

            def __lt__(self, other):
                return False

            __gt__ = __lt__

        for value in [(Zero(),), (0, Zero()), (Zero(), 0), (Zero,), (0, is_plant)]:
            self.assertIs(is_plant(value), False)

    def test_other_values(self):
        nested = ()
        for _ in range(40):
            nested = (nested,)
        listed = []
        for _ in range(40):
            listed = [listed]
        for value in NOT_PLANTS + [nested, listed, [list(PLANT)], {"plant": PLANT}, (PLANT,)]:
            with self.subTest(value):
                self.assertIs(is_plant(value), False)

    def test_list_in_place_of_the_tuple(self):
        for plant in sample_plants():
            self.assertIs(is_plant(list(plant)), False)


class TreeTest(unittest.TestCase):
    def check_plant(self, plant):
        self.assertEqual(makers(plant), [at for at in stations(plant) if not suppliers_of(plant, at)])
        for at in stations(plant):
            self.assertEqual(customer(plant, at), customer_of(plant, at))
            self.assertEqual(suppliers(plant, at), suppliers_of(plant, at))
            self.assertEqual(size(plant, at), len(stations_below(plant, at)) + 1)
            self.assertEqual(path_to_shop(plant, at), walk_to_shop(plant, at))
        self.assertIsNone(customer(plant, 0))

    def test_every_small_plant(self):
        for count in range(1, 7):
            for plant in all_plants(count):
                self.check_plant(plant)

    def test_plants_of_all_sizes(self):
        for plant in sample_plants():
            self.check_plant(plant)

    def test_forty_stations(self):
        for plant in [chain_plant(40), star_plant(40)] + [any_plant(40, seed) for seed in range(40)]:
            self.check_plant(plant)

    def test_kinds_of_results(self):
        for at in [0, 2, 3]:
            self.assertIs(type(suppliers(PLANT, at)), list)
            self.assertIs(type(path_to_shop(PLANT, at)), list)
            self.assertIs(type(size(PLANT, at)), int)
        self.assertIs(type(makers(PLANT)), list)

    def test_returned_lists_are_new(self):
        for call in [lambda: suppliers(PLANT, 0), lambda: path_to_shop(PLANT, 3), lambda: makers(PLANT)]:
            first = call()
            before = list(first)
            first.append(99)
            first[0] = 77
            self.assertEqual(call(), before)

    def test_other_plants_in_between_change_nothing(self):
        before = [suppliers(PLANT, 0), makers(PLANT), size(PLANT, 2), path_to_shop(PLANT, 3)]
        suppliers(WIDE, 0), makers(WIDE), size(WIDE, 2), path_to_shop(WIDE, 5)
        self.assertEqual([suppliers(PLANT, 0), makers(PLANT), size(PLANT, 2), path_to_shop(PLANT, 3)], before)


class ErrorsTest(RefusalCase):
    def test_no_plant(self):
        for value in NOT_PLANTS:
            self.check_refused(NoPlant, makers, (value,))
            for function in OF_STATION:
                self.check_refused(NoPlant, function, (value, 0))

    def test_no_station(self):
        for value in NOT_STATIONS:
            for function in OF_STATION:
                self.check_refused(NoStation, function, (PLANT, value))

    def test_no_plant_comes_first(self):
        for value in NOT_PLANTS:
            for station in NOT_STATIONS:
                for function in OF_STATION:
                    self.check_refused(NoPlant, function, (value, station))

    def test_first_number_that_is_no_station(self):
        for plant in sample_plants():
            for function in OF_STATION:
                function(plant, len(plant))
                self.check_refused(NoStation, function, (plant, len(plant) + 1))
                self.check_refused(NoStation, function, (plant, -1))


if __name__ == "__main__":
    unittest.main()
