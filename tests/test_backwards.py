import itertools
import random
import unittest

from pulltree.backwards import count_before, has_day_before, ordered_before, patterns_before, stocks_with_sales
from pulltree.errors import NoDays, NoPattern, NoPlant, NoStock, NotOrdered, TooMany
from pulltree.far import stock_after
from pulltree.sales import first_sales
from pulltree.stocks import pattern
from refusals import RefusalCase
from simulation import (all_patterns, all_plants, any_plant, any_stock, chain_plant, ordered_by_definition,
                        ordered_patterns_by_definition, ordered_stock, ranks_by_definition, sample_plants, simulate,
                        simulate_day, star_plant, stations, suppliers_of, walk_to_shop)
from values import (GREATEST, NOT_FAR_NUMBERS, NOT_ORDERED, NOT_PATTERNS, NOT_PLANTS, NOT_STOCKS, ORDERED, OTHER_KINDS,
                    PLANT, STOCK, WIDE)

PLANT_AND_PATTERN = [(NoPlant, 0, NOT_PLANTS), (NoPattern, 1, NOT_PATTERNS)]

NOT_DAYS_BACK = OTHER_KINDS + [-1, 61, 62, 2000, 10 ** 36, -10 ** 36, (1,), "1"]

NOT_ORDERED_PATTERNS = [ranks_by_definition(stock) for stock in NOT_ORDERED]


def next_pattern(plant, ranks):
    return ranks_by_definition(simulate_day(plant, ranks)[2])


def patterns_one_day_before(plant):
    """For each pattern the ascending list of those that lead to it in a day."""
    before = {ranks: [] for ranks in all_patterns(plant)}
    for ranks in sorted(before):
        before[next_pattern(plant, ranks)].append(ranks)
    return before


def tried_patterns_before(plant, ranks):
    """For plants of any size: moves the boxes of each path back, and keeps what leads to the pattern."""
    found = []
    for maker in stations(plant):
        if not suppliers_of(plant, maker):
            path = walk_to_shop(plant, maker)
            held = dict(enumerate(ranks))
            for station, above in zip(path, path[1:]):
                held[station] = ranks[above]
            for sold in stations(plant):
                # Halves keep the other boxes in their order.
                boxes = [2 * sold - 1] + [2 * held[station] for station in stations(plant)[1:]]
                before = ranks_by_definition(boxes)
                if sorted(before) == stations(plant) and next_pattern(plant, before) == ranks:
                    found.append(before)
    return sorted(set(found))


class ExamplesTest(unittest.TestCase):
    def test_examples_of_the_document(self):
        self.assertIs(has_day_before(PLANT, (0, 1, 3, 2)), False)
        self.assertEqual(patterns_before(PLANT, (0, 1, 2, 3)),
                         [(0, 2, 1, 3), (1, 2, 0, 3), (2, 1, 0, 3), (3, 1, 0, 2)])
        self.assertEqual(ordered_before(PLANT, (0, 1, 2, 3), 10 ** 9), (0, 2, 1, 3))
        self.assertEqual(count_before(PLANT, (0, 1, 2, 3), 1), 4)
        self.assertEqual(stocks_with_sales(PLANT, (4, 2, 1, 3)), [(4, 3, 2, 1)])

    def test_plant_of_one_station(self):
        self.assertIs(has_day_before((), (0,)), True)
        self.assertEqual(patterns_before((), (0,)), [(0,)])
        for days in [0, 1, 60]:
            self.assertEqual(ordered_before((), (0,), days), (0,))
            self.assertEqual(count_before((), (0,), days), 1)
        self.assertEqual(ordered_before((), (0,), GREATEST), (0,))
        self.assertEqual(stocks_with_sales((), (-7,)), [(-7,)])


class DayBeforeTest(unittest.TestCase):
    def test_every_small_pattern(self):
        for count in range(1, 6):
            for plant in all_plants(count):
                for ranks, before in patterns_one_day_before(plant).items():
                    self.assertIn(len(before), (0, count))
                    self.assertEqual(patterns_before(plant, ranks), before)
                    self.assertIs(has_day_before(plant, ranks), before != [])

    def test_every_pattern_of_some_plants_of_six(self):
        for plant in all_plants(6)[::11] + [star_plant(6), chain_plant(6), WIDE]:
            for ranks, before in patterns_one_day_before(plant).items():
                self.assertEqual(patterns_before(plant, ranks), before)
                self.assertIs(has_day_before(plant, ranks), before != [])

    def test_tried_patterns_of_small_plants(self):
        for plant in all_plants(4):
            for ranks, before in patterns_one_day_before(plant).items():
                self.assertEqual(tried_patterns_before(plant, ranks), before)

    def test_plants_of_all_sizes(self):
        for seed, plant in enumerate(sample_plants(1)):
            for stock in [any_stock(plant, seed), simulate_day(plant, any_stock(plant, seed))[2],
                          ordered_stock(plant, seed)]:
                ranks = ranks_by_definition(stock)
                before = patterns_before(plant, ranks)
                self.assertIs(has_day_before(plant, ranks), before != [])
                if len(plant) % 4 < 2:
                    self.assertEqual(before, tried_patterns_before(plant, ranks))

    def test_the_pattern_of_a_stock_is_one_day_before_its_next_one(self):
        for seed, plant in enumerate(sample_plants()):
            stock = any_stock(plant, seed)
            later = next_pattern(plant, stock)
            before = patterns_before(plant, later)
            self.assertIn(ranks_by_definition(stock), before)
            self.assertEqual(len(before), len(stock))
            self.assertEqual(before, sorted(set(before)))
            for ranks in before:
                self.assertEqual(next_pattern(plant, ranks), later)
            self.assertIs(has_day_before(plant, later), True)

    def test_patterns_without_a_day_before(self):
        for seed, plant in enumerate(sample_plants()):
            ranks = next_pattern(plant, any_stock(plant, seed))
            maker = ranks.index(len(plant))
            for station in set(plant):
                # The newest box is not at a maker.
                changed = list(ranks)
                changed[maker], changed[station] = ranks[station], ranks[maker]
                self.assertIs(has_day_before(plant, tuple(changed)), False)
                self.assertEqual(patterns_before(plant, tuple(changed)), [])
            path = walk_to_shop(plant, maker)
            for station in path[1:]:
                for other in set(suppliers_of(plant, station)) - set(path):
                    # Another supplier holds an older box than the one that the station took.
                    changed = list(ranks)
                    changed[other], changed[station] = ranks[station], ranks[other]
                    self.assertIs(has_day_before(plant, tuple(changed)), False)
                    self.assertEqual(patterns_before(plant, tuple(changed)), [])

    def test_each_ordered_pattern_has_a_day_before(self):
        for seed, plant in enumerate(sample_plants()):
            self.assertIs(has_day_before(plant, ranks_by_definition(ordered_stock(plant, seed))), True)

    def test_chain_and_star_of_forty(self):
        ranks = tuple(range(40))
        self.assertEqual(patterns_before(chain_plant(40), ranks), [
            (sold,) + tuple(rank for rank in range(40) if rank != sold) for sold in range(40)])
        before = patterns_before(star_plant(40), ranks)
        self.assertEqual(before[0], (0,) + tuple(range(2, 40)) + (1,))
        self.assertEqual(before[39], (39,) + tuple(range(1, 39)) + (0,))
        self.assertEqual(len(before), 40)


class OrderedBeforeTest(unittest.TestCase):
    def test_every_small_ordered_pattern(self):
        for count in range(1, 6):
            for plant in all_plants(count):
                patterns = ordered_patterns_by_definition(plant)
                last = {ranks: ranks for ranks in patterns}
                for days in range(2 * count + 3):
                    for ranks, later in last.items():
                        self.assertEqual(ordered_before(plant, later, days), ranks)
                    last = {ranks: next_pattern(plant, later) for ranks, later in last.items()}

    def test_near_days_of_plants_of_all_sizes(self):
        for seed, plant in enumerate(sample_plants(1)):
            stock = ordered_stock(plant, seed)
            for days in [0, 1, 2, 3, len(plant), len(plant) + 1, 2 * len(plant) + 5]:
                later = ranks_by_definition(simulate(plant, stock, days)[1])
                self.assertEqual(ordered_before(plant, later, days), ranks_by_definition(stock))

    def test_far_days(self):
        for seed, plant in enumerate(sample_plants()):
            ranks = ranks_by_definition(ordered_stock(plant, seed))
            source = random.Random(seed)
            for days in [10 ** 9, source.randrange(10 ** 18), source.randrange(GREATEST), GREATEST - 1, GREATEST]:
                found = ordered_before(plant, ranks, days)
                self.assertIs(ordered_by_definition(plant, found), True)
                self.assertEqual(ranks_by_definition(stock_after(plant, found, days)), ranks)
                self.assertEqual(ordered_before(plant, pattern(plant, stock_after(plant, ranks, days)), days), ranks)

    def test_one_day_is_the_ordered_one_of_the_patterns_before(self):
        for seed, plant in enumerate(sample_plants(1)):
            ranks = ranks_by_definition(ordered_stock(plant, seed))
            before = [other for other in patterns_before(plant, ranks) if ordered_by_definition(plant, other)]
            self.assertEqual(before, [ordered_before(plant, ranks, 1)])
            self.assertEqual(ordered_before(plant, ranks, 0), ranks)

    def test_some_days_and_then_some_more(self):
        for seed, plant in enumerate(sample_plants(1)):
            ranks = ranks_by_definition(ordered_stock(plant, seed))
            for one in [1, 17, 10 ** 20 + seed]:
                both = ordered_before(plant, ordered_before(plant, ranks, one), GREATEST - one)
                self.assertEqual(both, ordered_before(plant, ranks, GREATEST))


class CountBeforeTest(unittest.TestCase):
    def check_plant(self, plant, many, step=1):
        counts = {ranks: 1 for ranks in all_patterns(plant)}
        following = {ranks: next_pattern(plant, ranks) for ranks in counts}
        for days in range(many + 1):
            for ranks in list(counts)[days % step::step]:
                self.assertEqual(count_before(plant, ranks, days), counts[ranks])
            later = {ranks: 0 for ranks in counts}
            for ranks, count in counts.items():
                later[following[ranks]] += count
            counts = later

    def test_every_small_pattern(self):
        for count in range(1, 5):
            for plant in all_plants(count):
                self.check_plant(plant, 9)

    def test_plants_of_five_and_six(self):
        for plant in all_plants(5)[::3]:
            self.check_plant(plant, 7, 3)
        for plant in [chain_plant(6), star_plant(6), WIDE, (0, 1, 0, 3, 3)]:
            self.check_plant(plant, 7, 29)

    def test_sixty_days(self):
        for plant in [(), (0,), (0, 1), (0, 0), PLANT, (0, 0, 0)]:
            self.check_plant(plant, 60)
        self.assertEqual(count_before(chain_plant(6), tuple(range(6)), 60), 720)
        self.assertEqual(count_before(star_plant(6), tuple(range(6)), 60), 6)
        self.assertEqual(count_before(chain_plant(6), (0, 1, 2, 3, 5, 4), 60), 0)

    def test_no_days(self):
        for plant in all_plants(4):
            for ranks in all_patterns(plant):
                self.assertEqual(count_before(plant, ranks, 0), 1)

    def test_all_patterns_together(self):
        for plant in [WIDE, (0, 1, 1, 0, 2)]:
            for days in [0, 1, 4, 5, 60]:
                self.assertEqual(sum(count_before(plant, ranks, days) for ranks in all_patterns(plant)), 720)


class StocksWithSalesTest(unittest.TestCase):
    def check_plant(self, plant, numbers):
        expected = {boxes: [] for boxes in itertools.permutations(numbers)}
        for stock in sorted(expected):
            sales = [sold for sold, chain in simulate(plant, stock, len(stock))[0]]
            expected[tuple(sales)].append(stock)
        for boxes, stocks in expected.items():
            self.assertEqual(stocks_with_sales(plant, boxes), stocks)

    def test_every_small_plant(self):
        for count in range(1, 6):
            for plant in all_plants(count):
                self.check_plant(plant, range(count))

    def test_other_numbers(self):
        for plant in all_plants(4):
            self.check_plant(plant, [-10 ** 40, -1, 7, 10 ** 40])

    def test_plants_of_six_and_seven(self):
        for plant in [WIDE, (0, 1, 0, 3, 3)]:
            self.check_plant(plant, range(6))
        for plant in [any_plant(7, 1), (0, 0, 1, 1, 2, 2)]:
            self.check_plant(plant, range(7))

    def test_chain_and_star(self):
        for boxes in [(3, 1, 2, 7, 5, 4, 6), (1, 2, 3, 4, 5, 6, 7), (7, 1, 2, 3, 4, 5, 6), (7, 6, 5, 4, 3, 2, 1)]:
            self.assertEqual(stocks_with_sales(chain_plant(7), boxes), [boxes])
            rises = list(boxes[1:]) == sorted(boxes[1:])
            rests = sorted(itertools.permutations(boxes[1:])) if rises else []
            self.assertEqual(stocks_with_sales(star_plant(7), boxes), [boxes[:1] + rest for rest in rests])

    def test_the_sales_of_a_stock_lead_back_to_it(self):
        for seed in range(60):
            plant = any_plant(1 + seed % 7, seed)
            stock = any_stock(plant, seed)
            sales = tuple(first_sales(plant, stock))
            stocks = stocks_with_sales(plant, sales)
            self.assertIn(stock, stocks)
            self.assertEqual(stocks, sorted(set(stocks)))
            for found in stocks:
                self.assertEqual(tuple(first_sales(plant, found)), sales)


class KindsTest(unittest.TestCase):
    def test_kinds_of_results(self):
        self.assertIs(has_day_before(PLANT, (0, 1, 2, 3)), True)
        for found in [patterns_before(PLANT, (0, 1, 2, 3)), stocks_with_sales(PLANT, (4, 2, 1, 3)),
                      [ordered_before(PLANT, (0, 1, 2, 3), 5)]]:
            self.assertIs(type(found), list)
            self.assertEqual({type(ranks) for ranks in found}, {tuple})
            self.assertEqual({type(rank) for ranks in found for rank in ranks}, {int})
        self.assertIs(type(count_before(PLANT, (0, 1, 2, 3), 3)), int)

    def test_returned_lists_are_new(self):
        for function, arguments in [(patterns_before, (PLANT, (0, 1, 2, 3))), (patterns_before, (PLANT, (0, 1, 3, 2))),
                                    (stocks_with_sales, (PLANT, (4, 2, 1, 3)))]:
            found, other = function(*arguments), function(*arguments)
            self.assertIsNot(found, other)
            found.append(None)
            self.assertEqual(function(*arguments), other)

    def test_calls_in_between_change_nothing(self):
        calls = [lambda: has_day_before(PLANT, (0, 1, 2, 3)), lambda: patterns_before(PLANT, (0, 1, 2, 3)),
                 lambda: ordered_before(PLANT, (0, 1, 2, 3), 7), lambda: count_before(PLANT, (0, 1, 2, 3), 7),
                 lambda: stocks_with_sales(PLANT, (4, 2, 1, 3))]
        before = [call() for call in calls]
        patterns_before(WIDE, (0, 1, 2, 3, 4, 5)), count_before(WIDE, (0, 1, 2, 3, 4, 5), 3)
        self.assertEqual([call() for call in reversed(calls)], before[::-1])


class ErrorsTest(RefusalCase):
    def test_has_day_before_and_patterns_before(self):
        for function in [has_day_before, patterns_before]:
            for ranks in [(0, 1, 2, 3), (3, 2, 1, 0)]:
                self.check_refusals(function, (PLANT, ranks), PLANT_AND_PATTERN)

    def test_ordered_before(self):
        self.check_refusals(ordered_before, (PLANT, (0, 1, 2, 3), 7), PLANT_AND_PATTERN + [
            (NoDays, 2, NOT_FAR_NUMBERS), (NotOrdered, 1, NOT_ORDERED_PATTERNS)])

    def test_count_before(self):
        for ranks in [(0, 1, 2, 3), (3, 2, 1, 0)]:
            self.check_refusals(count_before, (PLANT, ranks, 7), PLANT_AND_PATTERN + [(NoDays, 2, NOT_DAYS_BACK)])

    def test_stocks_with_sales(self):
        for boxes in [STOCK, ORDERED]:
            self.check_refusals(stocks_with_sales, (PLANT, boxes), [(NoPlant, 0, NOT_PLANTS), (NoStock, 1, NOT_STOCKS)])

    def check_too_many(self, function, arguments, stations_told):
        with self.assertRaises(TooMany) as caught:
            function(*arguments)
        self.assertIs(type(caught.exception), TooMany)
        self.assertEqual(caught.exception.size, stations_told)

    def test_too_many_stations(self):
        for seed, plant in enumerate(sample_plants(1)):
            ranks = tuple(stations(plant))
            if len(ranks) > 6:
                for days in [0, 1, 60]:
                    self.check_too_many(count_before, (plant, ranks, days), len(ranks))
                for days in [-1, 61, None, True]:
                    self.check_refused(NoDays, count_before, (plant, ranks, days))
                    self.check_refused(NoPattern, count_before, (plant, ranks[1:] + (len(ranks),), days))
                self.check_refused(NoPlant, count_before, (list(plant), ranks, 1))
            else:
                self.assertEqual(count_before(plant, ranks, 1), len(ranks))
            if len(ranks) > 7:
                self.check_too_many(stocks_with_sales, (plant, any_stock(plant, seed)), len(ranks))
                for boxes in [ranks[1:], ranks[1:] + (ranks[1],), list(ranks), ranks[1:] + (None,), ranks + (-1,)]:
                    self.check_refused(NoStock, stocks_with_sales, (plant, boxes))
                self.check_refused(NoPlant, stocks_with_sales, (list(plant), ranks))
            else:
                self.assertIn(ranks, stocks_with_sales(plant, ranks))

    def test_least_and_greatest_days(self):
        for days in [0, 1, 59, 60]:
            count_before(PLANT, (0, 1, 2, 3), days)
        for days in [-1, 61]:
            self.check_refused(NoDays, count_before, (PLANT, (0, 1, 2, 3), days))
        for seed, plant in enumerate(sample_plants(1)):
            ranks = tuple(stations(plant))
            for days in [0, 1, GREATEST]:
                ordered_before(plant, ranks, days)
            for days in [-1, GREATEST + 1]:
                self.check_refused(NoDays, ordered_before, (plant, ranks, days))
                if plant:
                    self.check_refused(NoDays, ordered_before, (plant, ranks[::-1], days))
                self.check_refused(NoPattern, ordered_before, (plant, any_stock(plant, seed)[:-1] + (-1,), days))
            if plant:
                self.check_refused(NotOrdered, ordered_before, (plant, ranks[::-1], 1))


if __name__ == "__main__":
    unittest.main()
