import itertools
import math
import random
import unittest

from pulltree.counting import count_ordered, longest_cycle, nth_ordered, ordered_number, ordered_patterns
from pulltree.errors import NoNumber, NoPlant, NoStock, NotOrdered, TooMany
from refusals import RefusalCase
from simulation import (all_plants, any_plant, chain_plant, cycle_by_definition, ordered_by_definition,
                        ordered_patterns_by_definition, ordered_stock, ranks_by_definition, sample_plants, star_plant,
                        stations, stations_below)
from values import NOT_ORDERED, NOT_PLANTS, NOT_STOCKS, ORDERED, OTHER_KINDS, PLANT, STOCK, WIDE


def number_by_promise(plant):
    """The factorial of n divided by the product of the sizes of all stations."""
    sizes = [len(stations_below(plant, station)) + 1 for station in stations(plant)]
    return math.factorial(len(sizes)) // math.prod(sizes)


class ExamplesTest(unittest.TestCase):
    def test_examples_of_the_document(self):
        self.assertEqual(count_ordered(WIDE), 20)
        self.assertEqual(nth_ordered(PLANT, 1), (0, 2, 1, 3))
        self.assertEqual(ordered_number(PLANT, (3, 7, 5, 6)), 2)
        self.assertEqual(longest_cycle(PLANT), 3)

    def test_plant_of_one_station(self):
        self.assertEqual(count_ordered(()), 1)
        self.assertEqual(nth_ordered((), 0), (0,))
        self.assertEqual(ordered_number((), (-7,)), 0)
        self.assertEqual(longest_cycle(()), 1)


class SmallPlantsTest(unittest.TestCase):
    def check_plant(self, plant):
        patterns = sorted(ordered_patterns_by_definition(plant))
        self.assertEqual(count_ordered(plant), len(patterns))
        self.assertEqual([nth_ordered(plant, number) for number in range(len(patterns))], patterns)
        self.assertEqual([ordered_number(plant, ranks) for ranks in patterns], list(range(len(patterns))))
        self.assertEqual(sorted(ordered_patterns(plant)), patterns)

    def test_every_small_plant(self):
        for count in range(1, 7):
            for plant in all_plants(count):
                self.check_plant(plant)

    def test_some_plants_of_seven_and_eight_stations(self):
        plants = [star_plant(7), chain_plant(7), (0, 0, 1, 1, 2, 2), any_plant(7, 1), any_plant(7, 2), any_plant(8, 3)]
        for plant in plants:
            self.check_plant(plant)


class GreatPlantsTest(unittest.TestCase):
    def numbers(self, plant, seed):
        source = random.Random(seed)
        count = count_ordered(plant)
        found = {0, 1, 2, count // 2, count - 2, count - 1} | {source.randrange(count) for _ in range(6)}
        return sorted(number for number in found if 0 <= number < count)

    def test_count_is_the_factorial_over_the_product_of_the_sizes(self):
        for plant in sample_plants():
            self.assertEqual(count_ordered(plant), number_by_promise(plant))

    def test_chain_and_star(self):
        for count in range(1, 41):
            self.assertEqual(count_ordered(chain_plant(count)), 1)
            self.assertEqual(nth_ordered(chain_plant(count), 0), tuple(range(count)))
            self.assertEqual(ordered_number(chain_plant(count), tuple(range(5, count + 5))), 0)
            orders = math.factorial(count - 1)
            self.assertEqual(count_ordered(star_plant(count)), orders)
            self.assertEqual(nth_ordered(star_plant(count), 0), tuple(range(count)))
            last = (0,) + tuple(range(count - 1, 0, -1))
            self.assertEqual(nth_ordered(star_plant(count), orders - 1), last)
            self.assertEqual(ordered_number(star_plant(count), last), orders - 1)

    def test_patterns_are_ordered_and_their_numbers_lead_back(self):
        for seed, plant in enumerate(sample_plants()):
            found = []
            for number in self.numbers(plant, seed):
                ranks = nth_ordered(plant, number)
                self.assertEqual(sorted(ranks), stations(plant))
                self.assertIs(ordered_by_definition(plant, ranks), True)
                self.assertEqual(ordered_number(plant, ranks), number)
                found.append(ranks)
            self.assertEqual(found, sorted(set(found)))

    def test_the_first_pattern(self):
        for plant in sample_plants():
            self.assertEqual(nth_ordered(plant, 0), tuple(stations(plant)))
            self.assertEqual(ordered_number(plant, tuple(stations(plant))), 0)

    def test_no_ordered_pattern_lies_between_a_number_and_the_next_one(self):
        for seed, plant in enumerate(sample_plants(1)):
            source = random.Random(seed)
            count = count_ordered(plant)
            for _ in range(3):
                number = source.randrange(count)
                if number + 1 < count:
                    self.check_nothing_between(plant, nth_ordered(plant, number), nth_ordered(plant, number + 1))

    def check_nothing_between(self, plant, one, other):
        self.assertLess(one, other)
        # What lies between begins like both; only short rests are tried.
        same = min(at for at in stations(plant) if one[at] != other[at])
        if len(one) - same < 8:
            for rest in itertools.permutations(one[same:]):
                ranks = one[:same] + rest
                self.assertFalse(one < ranks < other and ordered_by_definition(plant, ranks), ranks)

    def test_only_the_pattern_counts(self):
        for seed, plant in enumerate(sample_plants()):
            stock = ordered_stock(plant, seed)
            number = ordered_number(plant, stock)
            self.assertEqual(nth_ordered(plant, number), ranks_by_definition(stock))
            self.assertEqual(ordered_number(plant, ranks_by_definition(stock)), number)
            self.assertEqual(ordered_number(plant, tuple(3 * box - 10 ** 36 for box in stock)), number)


class LongestCycleTest(unittest.TestCase):
    def check_plant(self, plant):
        lengths = [len(cycle_by_definition(plant, ranks)) for ranks in ordered_patterns_by_definition(plant)]
        self.assertEqual(longest_cycle(plant), max(lengths))

    def test_every_small_plant(self):
        for count in range(1, 6):
            for plant in all_plants(count):
                self.check_plant(plant)

    def test_plants_of_six_and_seven_stations(self):
        for plant in all_plants(6)[::4] + [(0, 0, 0, 1, 1, 2), (0, 0, 1, 1, 2, 2), (0, 0, 2, 2, 2, 3)]:
            self.check_plant(plant)

    def test_chain_and_star(self):
        for count in range(2, 8):
            self.assertEqual(longest_cycle(chain_plant(count)), 1)
            self.assertEqual(longest_cycle(star_plant(count)), count - 1)

    def test_more_than_seven_stations(self):
        for plant in sample_plants(1):
            if len(plant) < 7:
                longest_cycle(plant)
                continue
            with self.assertRaises(TooMany) as caught:
                longest_cycle(plant)
            self.assertIs(type(caught.exception), TooMany)
            self.assertEqual(caught.exception.size, len(plant) + 1)


class KindsTest(unittest.TestCase):
    def test_kinds_of_results(self):
        self.assertIs(type(count_ordered(PLANT)), int)
        self.assertIs(type(ordered_number(PLANT, ORDERED)), int)
        self.assertIs(type(longest_cycle(PLANT)), int)
        for number in range(3):
            ranks = nth_ordered(PLANT, number)
            self.assertIs(type(ranks), tuple)
            self.assertEqual({type(rank) for rank in ranks}, {int})

    def test_calls_in_between_change_nothing(self):
        calls = [lambda: count_ordered(PLANT), lambda: nth_ordered(PLANT, 2), lambda: ordered_number(PLANT, ORDERED),
                 lambda: longest_cycle(PLANT)]
        before = [call() for call in calls]
        count_ordered(star_plant(40)), nth_ordered(star_plant(40), 10 ** 40), longest_cycle(WIDE)
        self.assertEqual([call() for call in reversed(calls)], before[::-1])


class ErrorsTest(RefusalCase):
    def test_count_ordered_and_longest_cycle(self):
        for function in [count_ordered, longest_cycle]:
            self.check_refusals(function, (PLANT,), [(NoPlant, 0, NOT_PLANTS)])

    def test_nth_ordered(self):
        no_numbers = OTHER_KINDS + [-1, 3, 4, 10 ** 36, -10 ** 36, 10 ** 60, -10 ** 60, (1,), "1"]
        self.check_refusals(nth_ordered, (PLANT, 1), [(NoPlant, 0, NOT_PLANTS), (NoNumber, 1, no_numbers)])

    def test_ordered_number(self):
        self.check_refusals(ordered_number, (PLANT, ORDERED), [
            (NoPlant, 0, NOT_PLANTS), (NoStock, 1, NOT_STOCKS), (NotOrdered, 1, NOT_ORDERED + [STOCK])])

    def test_least_and_greatest_numbers(self):
        for plant in sample_plants():
            count = count_ordered(plant)
            nth_ordered(plant, 0), nth_ordered(plant, count - 1)
            for number in [-1, count, count + 1, 10 ** 60, True, False]:
                self.check_refused(NoNumber, nth_ordered, (plant, number))

    def test_stocks_that_are_not_ordered_by_one_pair(self):
        for seed, plant in enumerate(sample_plants(1)):
            stock = ordered_stock(plant, seed)
            for lower in range(1, len(plant) + 1):
                changed = list(stock)
                upper = plant[lower - 1]
                changed[upper], changed[lower] = stock[lower], stock[upper]
                self.check_refused(NotOrdered, ordered_number, (plant, tuple(changed)))


if __name__ == "__main__":
    unittest.main()
