import itertools
import random
import unittest

from pulltree.cycles import cycle_length, cycle_of, days_between, word_period
from pulltree.errors import NoPlant, NoStation, NoStock, NotOrdered, TooMany
from pulltree.far import stock_after
from pulltree.words import pattern_of_words, word, words_after, words_of
from refusals import RefusalCase
from simulation import (all_patterns, all_plants, any_plant, any_stock, any_words, chain_plant, cycle_by_definition,
                        first_ordered_by_definition, ordered_patterns_by_definition, ordered_stock, ranks_by_definition,
                        sample_plants, simulated_stocks, star_plant, stations, word_by_definition)
from values import GREATEST, NOT_ORDERED, NOT_PLANTS, NOT_STATIONS, NOT_STOCKS, ORDERED, PLANT, STOCK, WIDE

OF_STOCK = [(NoPlant, 0, NOT_PLANTS), (NoStock, 1, NOT_STOCKS)]


def period_by_definition(letters):
    return min(many for many in range(1, len(letters) + 2) if letters[many:] + letters[:many] == letters)


def prime_divisors(number):
    found = []
    divisor = 2
    while number > 1:
        if number % divisor == 0:
            found.append(divisor)
            while number % divisor == 0:
                number //= divisor
        divisor += 1
    return found


def plant_of_tree(tree):
    """The plant of nested tuples: a station is the tuple of its suppliers."""
    plant = []
    waiting = [(tree, 0)]
    for suppliers, station in waiting:
        for supplier in suppliers:
            plant.append(station)
            waiting.append((supplier, len(plant)))
    return tuple(plant)


def chain_tree(count):
    return () if count == 1 else (chain_tree(count - 1),)


def stock_of_rounds(plant, rounds):
    """The ordered pattern whose words are sorted, but for those of station 0: so many equal rounds."""
    words = words_of(plant, ordered_stock(plant, 1))
    words = [sorted(letters) for letters in words]
    words[0] = words[0][::rounds] * rounds
    return pattern_of_words(plant, words)


LEAF = ()

# 36 stations each. Station 0 has words of equal rounds: seven of five letters, and five of seven letters.
FIVE_THOUSAND = plant_of_tree((((((LEAF,) * 5,) + (LEAF,) * 4,) + (LEAF,) * 9), chain_tree(7), chain_tree(7)))

TWO_HUNDRED_AND_THREE = plant_of_tree(((LEAF,) * 29, chain_tree(5)))

TWO_HUNDRED = ((0, 0, 2, 2, 3, 4, 6, 4, 7, 6), (0, 2, 1, 5, 3, 9, 6, 7, 4, 10, 8))

FIVE_THOUSAND_AND_FIVE = ((0, 0, 2, 2, 4, 3, 6, 6, 7, 7, 7, 10, 10), (0, 1, 2, 3, 4, 6, 5, 7, 8, 11, 9, 10, 13, 12))


class ExamplesTest(unittest.TestCase):
    def test_examples_of_the_document(self):
        self.assertEqual(word_period(WIDE, (0, 1, 2, 3, 4, 5), 0), 5)
        self.assertEqual(cycle_length(WIDE, (0, 1, 2, 3, 4, 5)), 10)
        self.assertEqual(cycle_of(PLANT, STOCK), [(0, 1, 2, 3), (0, 3, 1, 2), (0, 2, 1, 3)])
        self.assertEqual(days_between(PLANT, ORDERED, (0, 2, 1, 3)), 2)

    def test_plant_of_one_station(self):
        self.assertEqual(word_period((), (-7,), 0), 1)
        self.assertEqual(cycle_length((), (-7,)), 1)
        self.assertEqual(cycle_of((), (-7,)), [(0,)])
        self.assertEqual(days_between((), (-7,), (10 ** 40,)), 0)


class WordPeriodTest(unittest.TestCase):
    def check_stock(self, plant, stock):
        for station in stations(plant):
            expected = period_by_definition(word_by_definition(plant, stock, station))
            self.assertEqual(word_period(plant, stock, station), expected)

    def test_every_small_ordered_stock(self):
        for count in range(1, 6):
            for plant in all_plants(count):
                for stock in ordered_patterns_by_definition(plant):
                    self.check_stock(plant, stock)

    def test_plants_of_all_sizes(self):
        for seed, plant in enumerate(sample_plants()):
            self.check_stock(plant, ordered_stock(plant, seed))

    def test_words_of_equal_rounds(self):
        for letters, period in [([1, 2, 1, 2], 2), ([1, 2, 2, 1], 4), ([2, 2, 1, 1], 4), ([2, 1, 2, 1], 2)]:
            plant = (0, 0, 1, 2)
            stock = pattern_of_words(plant, [letters, [3], [4], [], []])
            self.assertEqual([word_period(plant, stock, station) for station in range(5)], [period, 1, 1, 1, 1])

    def test_chain_and_star(self):
        for count in range(2, 41):
            stock = tuple(range(count))
            self.assertEqual(word_period(chain_plant(count), stock, 0), 1)
            self.assertEqual(word_period(star_plant(count), stock, 0), count - 1)
            self.assertEqual(word_period(star_plant(count), stock, count - 1), 1)


class CycleTest(unittest.TestCase):
    def check_stock(self, plant, stock):
        expected = cycle_by_definition(plant, stock)
        self.assertEqual(cycle_length(plant, stock), len(expected))
        if len(expected) <= 200:
            self.assertEqual(cycle_of(plant, stock), expected)

    def test_every_small_stock(self):
        for count in range(1, 6):
            for plant in all_plants(count):
                for stock in all_patterns(plant):
                    self.check_stock(plant, stock)

    def test_every_ordered_stock_of_six_stations(self):
        for plant in all_plants(6):
            for stock in ordered_patterns_by_definition(plant)[::3]:
                self.check_stock(plant, stock)

    def test_plants_of_some_sizes(self):
        for seed in range(200):
            plant = any_plant(3 + seed % 9, seed)
            stock = any_stock(plant, seed)
            if cycle_length(plant, stock) < 300:
                self.check_stock(plant, stock)

    def test_words_come_again_after_the_cycle_and_not_before(self):
        for seed, plant in enumerate(sample_plants()):
            words = any_words(plant, seed)
            length = cycle_length(plant, pattern_of_words(plant, words))
            if length > GREATEST:
                continue
            self.assertEqual(words_after(plant, words, length), words)
            for divisor in prime_divisors(length):
                self.assertNotEqual(words_after(plant, words, length // divisor), words)

    def test_a_stock_that_is_not_ordered_has_the_cycle_of_its_first_ordered_one(self):
        for seed, plant in enumerate(sample_plants()):
            stock = any_stock(plant, seed)
            ordered = first_ordered_by_definition(plant, stock)
            length = cycle_length(plant, stock)
            self.assertEqual(cycle_length(plant, ordered), length)
            if length <= 200:
                patterns = cycle_of(plant, stock)
                self.assertEqual(patterns, cycle_of(plant, ordered))
                self.assertEqual(len(set(patterns)), length)
                self.assertEqual(patterns, [ranks_by_definition(later) for later
                                            in simulated_stocks(plant, ordered, length - 1)])

    def test_later_stocks_have_the_same_cycle(self):
        for seed, plant in enumerate(sample_plants(1)):
            stock = any_stock(plant, seed)
            length = cycle_length(plant, stock)
            for days in [1, 2, len(plant), 10 ** 20]:
                self.assertEqual(cycle_length(plant, stock_after(plant, stock, days)), length)

    def test_chain_and_star(self):
        for count in range(2, 41):
            reverse = tuple(range(count, 0, -1))
            self.assertEqual(cycle_length(chain_plant(count), reverse), 1)
            self.assertEqual(cycle_of(chain_plant(count), reverse), [tuple(range(count))])
            self.assertEqual(cycle_length(star_plant(count), reverse), count - 1)
            self.assertEqual(len(cycle_of(star_plant(count), reverse)), count - 1)

    def test_the_greatest_cycles_that_are_listed_and_the_next_ones(self):
        plant, stock = TWO_HUNDRED
        self.assertEqual(cycle_length(plant, stock), 200)
        self.assertEqual(cycle_of(plant, stock), cycle_by_definition(plant, stock))
        plant = TWO_HUNDRED_AND_THREE
        stock = stock_of_rounds(plant, 5)
        self.assertEqual(len(cycle_by_definition(plant, stock)), 203)
        self.check_too_many(cycle_of, (plant, stock), 203)
        for plant, stock in [(FIVE_THOUSAND, stock_of_rounds(FIVE_THOUSAND, 7)), FIVE_THOUSAND_AND_FIVE]:
            self.check_too_many(cycle_of, (plant, stock), len(cycle_by_definition(plant, stock)))

    def check_too_many(self, function, arguments, length):
        with self.assertRaises(TooMany) as caught:
            function(*arguments)
        self.assertIs(type(caught.exception), TooMany)
        self.assertEqual(caught.exception.size, length)

    def test_very_long_cycles(self):
        for seed in range(30):
            plant = any_plant(40, seed)
            for stock in [any_stock(plant, seed), ordered_stock(plant, seed)]:
                length = cycle_length(plant, stock)
                if length > 200:
                    self.check_too_many(cycle_of, (plant, stock), length)
                if length > 5000:
                    ordered = first_ordered_by_definition(plant, stock)
                    self.check_too_many(days_between, (plant, ordered, ordered), length)

    def test_great_and_negative_boxes(self):
        for shift in [10 ** 36, -10 ** 36, 10 ** 40 - 10]:
            stock = tuple(box + shift for box in STOCK)
            self.assertEqual(cycle_length(PLANT, stock), 3)
            self.assertEqual(cycle_of(PLANT, stock), cycle_of(PLANT, STOCK))


class DaysBetweenTest(unittest.TestCase):
    def test_all_pairs_of_small_ordered_stocks(self):
        plants = [plant for count in range(1, 6) for plant in all_plants(count)]
        for plant in plants + [(0, 0, 1, 1, 2), (0, 0, 0, 2, 2)]:
            patterns = ordered_patterns_by_definition(plant)
            for one in patterns:
                cycle = cycle_by_definition(plant, one)
                for other in patterns:
                    expected = cycle.index(other) if other in cycle else None
                    self.assertEqual(days_between(plant, one, other), expected)

    def test_only_the_patterns_count(self):
        for shift, scale in [(0, 5), (10 ** 36, 1), (-10 ** 36, 10 ** 4), (-100, 3)]:
            for one, other in itertools.product(ordered_patterns_by_definition(WIDE), repeat=2):
                moved = tuple(shift + scale * box for box in one)
                changed = tuple(7 * box - 11 for box in other)
                self.assertEqual(days_between(WIDE, moved, changed), days_between(WIDE, one, other))

    def test_plants_of_all_sizes(self):
        for seed, plant in enumerate(sample_plants(1)):
            stock = ordered_stock(plant, seed)
            length = cycle_length(plant, stock)
            source = random.Random(seed)
            if length <= 5000:
                for days in {0, 1, length - 1, length, source.randrange(10 ** 9), source.randrange(GREATEST)}:
                    later = stock_after(plant, stock, days)
                    self.assertEqual(days_between(plant, stock, later), days % length)
                    self.assertEqual(days_between(plant, later, stock), -days % length)
                    self.assertEqual(days_between(plant, stock, ranks_by_definition(later)), days % length)

    def test_stocks_that_never_come(self):
        for count in [4, 9, 40]:
            plant = star_plant(count)
            stock = tuple(range(count))
            other = (0, 2, 1) + stock[3:]
            self.assertIsNone(days_between(plant, stock, other))
            self.assertIsNone(days_between(plant, other, stock))
        plant = (0, 0, 1, 2)
        self.assertIsNone(days_between(plant, (0, 1, 2, 3, 4), (0, 1, 3, 2, 4)))

    def test_the_greatest_cycles_that_are_searched_and_the_next_ones(self):
        plant = FIVE_THOUSAND
        stock = stock_of_rounds(plant, 7)
        self.assertEqual(cycle_length(plant, stock), 5000)
        self.assertEqual(len(cycle_by_definition(plant, stock)), 5000)
        for days in [0, 1, 4998, 4999, 5000]:
            self.assertEqual(days_between(plant, stock, stock_after(plant, stock, days)), days % 5000)
        never = ordered_stock(plant, 2)
        self.assertIsNone(days_between(plant, stock, never))
        plant, stock = FIVE_THOUSAND_AND_FIVE
        for other in [stock, stock_after(plant, stock, 1), tuple(stations(plant))]:
            with self.assertRaises(TooMany) as caught:
                days_between(plant, stock, other)
            self.assertEqual(caught.exception.size, 5005)

    def test_the_cycle_of_the_first_stock_decides(self):
        plant = FIVE_THOUSAND
        short = stock_of_rounds(plant, 7)
        long = ordered_stock(plant, 2)
        length = cycle_length(plant, long)
        self.assertGreater(length, 5000)
        self.assertIsNone(days_between(plant, short, long))
        with self.assertRaises(TooMany) as caught:
            days_between(plant, long, short)
        self.assertEqual(caught.exception.size, length)


class KindsTest(unittest.TestCase):
    def test_kinds_of_results(self):
        for stock in [STOCK, ORDERED]:
            self.assertIs(type(cycle_length(PLANT, stock)), int)
            patterns = cycle_of(PLANT, stock)
            self.assertIs(type(patterns), list)
            self.assertEqual({type(ranks) for ranks in patterns}, {tuple})
            self.assertEqual({type(rank) for ranks in patterns for rank in ranks}, {int})
        for station in stations(PLANT):
            self.assertIs(type(word_period(PLANT, ORDERED, station)), int)
        self.assertIs(type(days_between(PLANT, ORDERED, ORDERED)), int)

    def test_returned_lists_are_new(self):
        found, other = cycle_of(PLANT, STOCK), cycle_of(PLANT, STOCK)
        self.assertIsNot(found, other)
        found.clear()
        self.assertEqual(cycle_of(PLANT, STOCK), other)
        letters = word(PLANT, ORDERED, 0)
        letters.reverse()
        self.assertEqual(word_period(PLANT, ORDERED, 0), 3)

    def test_calls_in_between_change_nothing(self):
        calls = [lambda: cycle_length(PLANT, STOCK), lambda: cycle_of(PLANT, STOCK),
                 lambda: days_between(PLANT, ORDERED, (0, 2, 1, 3)), lambda: word_period(PLANT, ORDERED, 0)]
        before = [call() for call in calls]
        cycle_of(WIDE, (5, 4, 3, 2, 1, 0)), cycle_length(star_plant(40), tuple(range(40, 0, -1)))
        self.assertEqual([call() for call in reversed(calls)], before[::-1])


class ErrorsTest(RefusalCase):
    def test_word_period(self):
        self.check_refusals(word_period, (PLANT, ORDERED, 0), OF_STOCK + [
            (NoStation, 2, NOT_STATIONS), (NotOrdered, 1, NOT_ORDERED)])

    def test_cycle_length_and_cycle_of(self):
        for function in [cycle_length, cycle_of]:
            for stock in [STOCK, ORDERED]:
                self.check_refusals(function, (PLANT, stock), OF_STOCK)

    def test_days_between(self):
        self.check_refusals(days_between, (PLANT, ORDERED, (0, 2, 1, 3)), OF_STOCK + [
            (NoStock, 2, NOT_STOCKS), (NotOrdered, 1, NOT_ORDERED), (NotOrdered, 2, NOT_ORDERED)])

    def test_too_many_is_told_last(self):
        plant, stock = FIVE_THOUSAND_AND_FIVE
        bad = (5, 4) + tuple(range(6, 18))
        for other in NOT_STOCKS:
            self.check_refused(NoStock, days_between, (plant, stock, other))
            self.check_refused(NoStock, days_between, (plant, bad, other))
        self.check_refused(NotOrdered, days_between, (plant, stock, bad[:len(stock)]))
        self.check_refused(NotOrdered, days_between, (plant, bad[:len(stock)], stock))
        self.check_refused(NoStock, cycle_of, (plant, stock[1:]))
        self.check_refused(NoPlant, cycle_of, (list(plant), stock))
        self.check_refused(TooMany, cycle_of, (plant, stock))
        self.check_refused(TooMany, days_between, (plant, stock, stock))


if __name__ == "__main__":
    unittest.main()
