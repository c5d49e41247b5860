"""What the document promises over the whole program, over all modules together."""

import copy
import itertools
import math
import os
import pathlib
import random
import subprocess
import sys
import unittest

from pulltree.backwards import count_before, has_day_before, ordered_before, patterns_before, stocks_with_sales
from pulltree.console import Console
from pulltree.counting import count_ordered, longest_cycle, nth_ordered, ordered_number
from pulltree.cycles import cycle_length, cycle_of, days_between, word_period
from pulltree.emptyings import emptied, emptied_within, nth_emptying, share
from pulltree.errors import PlantError
from pulltree.far import box_at, chain_on, maker_on, nth_made, stock_after
from pulltree.live import LivePlant
from pulltree.ordering import days_until_ordered, disorder, first_ordered, is_disorder, is_ordered
from pulltree.plants import customer, is_plant, makers, path_to_shop, size, suppliers
from pulltree.sales import day_sold, first_sales, sold_on, travel
from pulltree.stocks import after_day, is_stock, pattern, record, run
from pulltree.texts import read_plant, show_plant
from pulltree.turns import mean_time, turn_chain, turn_days, turn_sold_on, turn_stock_after, turn_time
from pulltree.words import is_words, pattern_of_words, word, words_after, words_of
from simulation import all_patterns, all_plants, any_stock, chain_plant, ordered_stock, sample_plants, stations
from test_interface import FUNCTIONS
from values import GREATEST, ORDERED, OTHER_KINDS, PLANT, STOCK, WIDE, WORDS

WIDE_STOCK = (0, 1, 2, 3, 4, 5)

TEXT = "shop 1\n0 3\n0 5\n2 6\n"


def said(rows):
    console = Console()
    return [console.say(row) for row in rows]


def lived(plant, stock, operations):
    live = LivePlant(plant, stock=stock)
    sold = [getattr(live, name)(*arguments) for name, *arguments in operations]
    return sold, live.plant(), live.stock(), live.log(), len(live)


CALLS = [
    (is_plant, (PLANT,)), (is_plant, ([0],)), (customer, (PLANT, 3)), (suppliers, (PLANT, 0)), (suppliers, (PLANT, 1)),
    (makers, (PLANT,)), (size, (WIDE, 1)), (path_to_shop, (PLANT, 3)),
    (is_stock, (PLANT, STOCK)), (is_stock, (PLANT, [4, 3, 2, 1])), (pattern, (PLANT, ORDERED)),
    (after_day, (PLANT, STOCK)), (run, (PLANT, STOCK, 3)), (record, (PLANT, STOCK, 3)),
    (is_ordered, (PLANT, STOCK)), (disorder, (PLANT, STOCK)), (is_disorder, (PLANT, STOCK, (0, 3))),
    (is_disorder, (PLANT, STOCK, [0, 3])), (days_until_ordered, (PLANT, STOCK)), (first_ordered, (PLANT, STOCK)),
    (first_sales, (PLANT, STOCK)), (first_sales, (PLANT, ORDERED)), (sold_on, (PLANT, STOCK, 7)),
    (day_sold, (PLANT, STOCK, 9)), (travel, (PLANT, STOCK, 5)), (travel, (PLANT, STOCK, 10 ** 20)),
    (word, (PLANT, ORDERED, 0)), (words_of, (PLANT, ORDERED)), (is_words, (PLANT, WORDS)),
    (pattern_of_words, (PLANT, WORDS)), (words_after, (PLANT, WORDS, 0)), (words_after, (PLANT, WORDS, 3)),
    (words_after, (PLANT, WORDS, GREATEST)), (emptied, (PLANT, STOCK, 1, 6)),
    (nth_emptying, (PLANT, STOCK, 1, 10 ** 9)), (share, (WIDE, 3)), (emptied_within, (PLANT, ORDERED, 0, 2, 4)),
    (stock_after, (PLANT, STOCK, GREATEST)), (chain_on, (PLANT, STOCK, 1)), (chain_on, (PLANT, STOCK, GREATEST)),
    (maker_on, (PLANT, STOCK, 5)), (box_at, (PLANT, STOCK, 1, 4)), (nth_made, (PLANT, STOCK, 1, 1)),
    (word_period, (WIDE, WIDE_STOCK, 0)), (cycle_length, (WIDE, WIDE_STOCK)), (cycle_of, (PLANT, STOCK)),
    (cycle_of, (WIDE, WIDE_STOCK)), (days_between, (PLANT, ORDERED, (0, 2, 1, 3))),
    (count_ordered, (WIDE,)), (nth_ordered, (WIDE, 7)), (ordered_number, (PLANT, ORDERED)), (longest_cycle, (WIDE,)),
    (has_day_before, (PLANT, (0, 1, 2, 3))), (patterns_before, (PLANT, (0, 1, 2, 3))),
    (patterns_before, (PLANT, (0, 1, 3, 2))), (ordered_before, (PLANT, (0, 1, 2, 3), 10 ** 9)),
    (count_before, (PLANT, (0, 1, 2, 3), 5)), (stocks_with_sales, (PLANT, (4, 2, 1, 3))),
    (turn_days, (WIDE, 4)), (turn_time, (PLANT, 3)), (turn_chain, (PLANT, 2)),
    (turn_stock_after, (PLANT, STOCK, GREATEST)), (turn_sold_on, (PLANT, STOCK, 4)), (mean_time, (PLANT,)),
    (show_plant, (PLANT, ORDERED)), (read_plant, (TEXT,)),
    (lived, (PLANT, STOCK, [("day",), ("days", 5), ("sell", 2), ("add", 1), ("undo",), ("remove",)])),
    (said, (["open shop 4;0 3;0 2;2 1", "day", "wait", "days 3", "word 0", "stock", "cycle", "add 1", "undo"],)),
]


def results():
    return [function(*arguments) for function, arguments in CALLS]


def lists_in(value):
    """All lists in a value, the value included."""
    if not isinstance(value, (list, tuple)):
        return []
    found = [value] if isinstance(value, list) else []
    for item in value:
        found += lists_in(item)
    return found


class ConventionsTest(unittest.TestCase):
    def test_every_function_is_called(self):
        called = {function for function, arguments in CALLS}
        for module, functions in FUNCTIONS.items():
            for name in functions:
                self.assertIn(getattr(module, name), called)

    def test_no_argument_is_changed(self):
        for function, arguments in CALLS:
            before = copy.deepcopy(arguments)
            function(*arguments)
            self.assertEqual(arguments, before, function.__name__)

    def test_every_returned_list_is_new(self):
        for function, arguments in CALLS:
            values = [function(*arguments) for _ in range(3)] + [arguments]
            lists = [found for value in values for found in lists_in(value)]
            self.assertEqual(len({id(found) for found in lists}), len(lists), function.__name__)

    def test_a_change_of_a_returned_list_changes_no_later_answer(self):
        expected = results()
        for found in lists_in(results()):
            found.append("changed")
            found.reverse()
        self.assertEqual(results(), expected)

    def test_later_changes_of_arguments_have_no_effect(self):
        words = copy.deepcopy(WORDS)
        later = words_after(PLANT, words, 0)
        words[0].reverse()
        words[1].append(7)
        self.assertEqual(later, WORDS)

    def test_the_order_of_the_calls_does_not_count(self):
        expected = results()
        places = list(range(len(CALLS)))
        for seed in range(5):
            random.Random(seed).shuffle(places)
            for place in places:
                function, arguments = CALLS[place]
                self.assertEqual(function(*arguments), expected[place])

    def test_other_runs_of_the_program_give_the_same_results(self):
        code = "import test_promises; print(repr(test_promises.results()))"
        folder = pathlib.Path(__file__).resolve().parent
        for seed in ["0", "1", "4711"]:
            paths = os.pathsep.join([str(folder), str(folder.parent)])
            settings = dict(os.environ, PYTHONHASHSEED=seed, PYTHONPATH=paths, PYTHONDONTWRITEBYTECODE="1")
            shown = subprocess.run([sys.executable, "-c", code], env=settings, capture_output=True, check=True).stdout
            self.assertEqual(shown.decode(), repr(results()) + "\n")

    def test_any_kinds_of_values_raise_listed_errors_only(self):
        values = OTHER_KINDS + [-1, 0, 1, 2, 10 ** 36, (0,), (True,), ((),), ("day",), {1, 2}, PLANT, STOCK, ORDERED,
                                WORDS, [STOCK]]
        source = random.Random(1)
        for function, arguments in CALLS[:-2]:
            for _ in range(150):
                mixed = [source.choice([argument, source.choice(values)]) for argument in arguments]
                before = copy.deepcopy(mixed)
                try:
                    function(*mixed)
                except PlantError as error:
                    self.assertIsNot(type(error), PlantError)
                self.assertEqual(mixed, before)


class SalesPromiseTest(unittest.TestCase):
    """(a) Every new box is sold exactly n days after it was made."""

    def test_in_all_modules(self):
        for seed, plant in enumerate(sample_plants(1)):
            stock = any_stock(plant, seed)
            count = len(stock)
            live = LivePlant(plant, stock=stock)
            sales = [live.day() for _ in range(2 * count + 2)]
            self.assertEqual(sales, [sold for sold, chain in record(plant, stock, len(sales))])
            for day in [1, 2, count, count + 1]:
                box = max(stock) + day
                self.assertEqual(sales[day + count - 1], box)
                self.check_box(plant, stock, box, day)
            for day in [10 ** 9, GREATEST - count]:
                self.check_box(plant, stock, max(stock) + day, day)

    def check_box(self, plant, stock, box, day):
        count = len(stock)
        self.assertEqual(day_sold(plant, stock, box), day + count)
        self.assertEqual(sold_on(plant, stock, day + count), box)
        self.assertEqual(box_at(plant, stock, 0, day + count - 1), box)
        self.assertNotIn(box, stock_after(plant, stock, day + count))
        self.assertEqual(stock_after(plant, stock, day)[maker_on(plant, stock, day)], box)
        self.assertEqual(travel(plant, stock, box)[0], (maker_on(plant, stock, day), day))
        live = LivePlant(plant, stock=stock)
        live.days(day)
        if count > 1:
            live.days(count - 1)
        self.assertEqual(live.day(), box)

    def test_the_mean_of_the_rule_in_turn_is_the_same(self):
        for plant in sample_plants(1):
            self.assertEqual(mean_time(plant), (len(plant) + 1, 1))


class OrderPromiseTest(unittest.TestCase):
    """(b) After at most n - 1 days the stock is ordered."""

    def test_in_all_modules(self):
        for seed, plant in enumerate(sample_plants(1)):
            for stock in [any_stock(plant, seed), tuple(stations(plant))[::-1]]:
                days = days_until_ordered(plant, stock)
                self.assertLessEqual(days, len(plant))
                later = run(plant, stock, days)
                self.assertEqual(first_ordered(plant, stock), later)
                self.assertEqual(stock_after(plant, stock, days), later)
                self.assertEqual(disorder(plant, stock) is None, days == 0)
                for many in range(len(plant) + 3):
                    self.assertIs(is_ordered(plant, run(plant, stock, many)), many >= days)
                for many in [len(plant), 10 ** 9, GREATEST]:
                    self.assertIs(is_ordered(plant, stock_after(plant, stock, many)), True)

    def test_the_greatest_number_of_days(self):
        for count in range(1, 41):
            self.assertEqual(days_until_ordered(chain_plant(count), tuple(range(count, 0, -1))), count - 1)


class EmptyingsPromiseTest(unittest.TestCase):
    """(c) Among any s - 1 consecutive emptyings of a station, each supplier is emptied as often as its size says."""

    def test_near_days(self):
        for seed, plant in enumerate(sample_plants(1)):
            stock = ordered_stock(plant, seed)
            chains = [chain for sold, chain in record(plant, stock, 3 * len(stock))]
            for supplier in stations(plant)[1::4]:
                station = customer(plant, supplier)
                used = [supplier in chain for chain in chains if station in chain]
                window = size(plant, station) - 1
                for start in range(len(used) - window + 1):
                    self.assertEqual(sum(used[start:start + window]), size(plant, supplier))

    def test_far_days(self):
        for seed, plant in enumerate(sample_plants(1)):
            stock = ordered_stock(plant, seed)
            source = random.Random(seed)
            for supplier in stations(plant)[1::4]:
                station = customer(plant, supplier)
                window = size(plant, station) - 1
                # The days of these emptyings stay within the bound.
                number = source.randrange(GREATEST // 10 ** 10)
                first = nth_emptying(plant, stock, station, number)
                end = nth_emptying(plant, stock, station, number + window)
                if end <= GREATEST:
                    many = emptied(plant, stock, supplier, end - 1) - emptied(plant, stock, supplier, first - 1)
                    self.assertEqual(many, size(plant, supplier))
                within = (emptied_within(plant, stock, station, supplier, number + window)
                          - emptied_within(plant, stock, station, supplier, number))
                self.assertEqual(within, size(plant, supplier))
                self.assertEqual(word(plant, stock, station).count(supplier), size(plant, supplier))


class CountPromiseTest(unittest.TestCase):
    """(d) The number of ordered patterns is the factorial of n divided by the product of all sizes."""

    def test_in_all_modules(self):
        for plant in sample_plants():
            product = math.prod(size(plant, station) for station in stations(plant))
            self.assertEqual(count_ordered(plant), math.factorial(len(plant) + 1) // product)

    def test_small_plants(self):
        for plant in [plant for count in range(1, 6) for plant in all_plants(count)]:
            patterns = [ranks for ranks in all_patterns(plant) if is_ordered(plant, ranks)]
            self.assertEqual(len(patterns), count_ordered(plant))
            self.assertEqual([nth_ordered(plant, number) for number in range(len(patterns))], patterns)
            cycles = {min(cycle_of(plant, ranks)): cycle_length(plant, ranks) for ranks in patterns}
            self.assertEqual(sum(cycles.values()), len(patterns))
            self.assertEqual(max(cycles.values()), longest_cycle(plant))


class DayBeforePromiseTest(unittest.TestCase):
    """(e) Every pattern has either no pattern or exactly n patterns one day before."""

    def test_in_all_modules(self):
        for plant in [plant for count in range(1, 6) for plant in all_plants(count)]:
            with_days_before = 0
            for ranks in all_patterns(plant):
                before = patterns_before(plant, ranks)
                self.assertEqual(len(before), len(ranks) if has_day_before(plant, ranks) else 0)
                self.assertEqual(count_before(plant, ranks, 1), len(before))
                with_days_before += before != []
                for other in before:
                    self.assertEqual(pattern(plant, after_day(plant, other)[2]), ranks)
            self.assertEqual(with_days_before * (len(plant) + 1), math.factorial(len(plant) + 1))

    def test_great_plants(self):
        for seed, plant in enumerate(sample_plants()):
            for stock in [any_stock(plant, seed), stock_after(plant, any_stock(plant, seed), 1)]:
                ranks = pattern(plant, stock)
                self.assertEqual(len(patterns_before(plant, ranks)), len(ranks) if has_day_before(plant, ranks) else 0)


class ModulesTogetherTest(unittest.TestCase):
    def test_words_stocks_and_cycles_agree(self):
        for seed, plant in enumerate(sample_plants(1)):
            stock = ordered_stock(plant, seed)
            for days in [1, len(plant) + 1, 10 ** 20 + seed]:
                later = stock_after(plant, stock, days)
                self.assertEqual(words_of(plant, later), words_after(plant, words_of(plant, stock), days))
                self.assertEqual(pattern_of_words(plant, words_of(plant, later)), pattern(plant, later))
                self.assertEqual(ordered_before(plant, pattern(plant, later), days), pattern(plant, stock))
                self.assertEqual(nth_ordered(plant, ordered_number(plant, later)), pattern(plant, later))
                if cycle_length(plant, stock) <= 5000:
                    self.assertEqual(days_between(plant, stock, later), days % cycle_length(plant, stock))

    def test_texts_live_plants_and_consoles_agree(self):
        for seed, plant in enumerate(sample_plants(1)):
            stock = tuple(random.Random(seed).sample(range(-50, 50), len(plant) + 1))
            self.assertEqual(read_plant(show_plant(plant, stock)), (plant, stock))
            live = LivePlant(plant, stock=stock)
            console = Console()
            console.say("open " + show_plant(plant, stock)[:-1].replace("\n", ";"))
            for name, *arguments in [("day",), ("days", 10 ** 9), ("sell", len(plant))]:
                answer = getattr(live, name)(*arguments)
                expected = "ok" if answer is None else str(answer)
                self.assertEqual(console.say(" ".join([name] + [str(number) for number in arguments])), expected)
                self.assertEqual(console.say("stock"), " ".join(str(box) for box in live.stock()))
                self.assertEqual(read_plant(show_plant(live.plant(), live.stock())), (live.plant(), live.stock()))

    def test_sales_lead_back_to_stocks(self):
        for plant, ranks in itertools.product(all_plants(4), all_patterns(PLANT)):
            self.assertIn(ranks, stocks_with_sales(plant, tuple(first_sales(plant, ranks))))

    def test_values_that_were_returned_may_be_passed_back(self):
        plant = chain_plant(3) + (0, 1, 1, 4)
        stock = tuple(range(len(plant), -1, -1))
        for _ in range(5):
            stock = stock_after(plant, stock, GREATEST)
            sales = first_sales(plant, stock)
            self.assertEqual(sales, sorted(stock))
            self.assertEqual(day_sold(plant, stock, sold_on(plant, stock, GREATEST)), GREATEST)
            self.assertEqual(read_plant(show_plant(plant, stock)), (plant, stock))
            live = LivePlant(plant, stock=stock)
            live.days(GREATEST)
            self.assertEqual(live.stock(), stock_after(plant, stock, GREATEST))


if __name__ == "__main__":
    unittest.main()
