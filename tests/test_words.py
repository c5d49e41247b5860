import copy
import itertools
import random
import unittest

from pulltree.errors import NoDays, NoPlant, NoStation, NoStock, NotOrdered, NoWords
from pulltree.words import is_words, pattern_of_words, word, words_after, words_of
from refusals import RefusalCase
from simulation import (all_patterns, all_plants, any_plant, any_words, chain_plant, letters_by_definition,
                        ordered_by_definition, ordered_stock, all_words, sample_plants, simulate_day, simulated_stocks,
                        star_plant, stations, suppliers_of, words_by_definition)
from values import (GREATEST, NOT_FAR_NUMBERS, NOT_ORDERED, NOT_PLANTS, NOT_STATIONS, NOT_STOCKS, NOT_WORDS, ORDERED,
                    OTHER_KINDS, PLANT, WIDE, WORDS)


class ExamplesTest(unittest.TestCase):
    def test_examples_of_the_document(self):
        self.assertEqual(word(PLANT, ORDERED, 0), [1, 2, 2])
        self.assertEqual(words_of(PLANT, ORDERED), [[1, 2, 2], [], [3], []])
        self.assertIs(is_words(PLANT, [[2, 1, 1], [], [3], []]), False)
        self.assertEqual(pattern_of_words(PLANT, [[2, 1, 2], [], [3], []]), (0, 2, 1, 3))
        self.assertEqual(words_after(PLANT, [[1, 2, 2], [], [3], []], 2), [[2, 1, 2], [], [3], []])

    def test_plant_of_one_station(self):
        self.assertEqual(word((), (-7,), 0), [])
        self.assertEqual(words_of((), (-7,)), [[]])
        self.assertIs(is_words((), [[]]), True)
        self.assertEqual(pattern_of_words((), [[]]), (0,))
        self.assertEqual(words_after((), [[]], GREATEST), [[]])
        for value in [[], [[], []], [[0]], [[1]], [()], ([],), [None], None, [{}]]:
            self.assertIs(is_words((), value), False)


class WordsOfTest(unittest.TestCase):
    def check_stock(self, plant, stock):
        words = words_by_definition(plant, stock)
        self.assertEqual(words_of(plant, stock), words)
        for station in stations(plant):
            self.assertEqual(word(plant, stock, station), words[station])
        self.assertIs(is_words(plant, words), True)
        ranks = tuple(sorted(stock).index(box) for box in stock)
        self.assertEqual(pattern_of_words(plant, words), ranks)

    def test_every_small_ordered_stock(self):
        for count in range(1, 7):
            for plant in all_plants(count):
                if count < 6 or plant[-1] % 2 == 0:
                    for stock in all_patterns(plant):
                        if ordered_by_definition(plant, stock):
                            self.check_stock(plant, stock)

    def test_plants_of_all_sizes(self):
        for seed, plant in enumerate(sample_plants()):
            self.check_stock(plant, ordered_stock(plant, seed))

    def test_after_a_day_the_first_supplier_is_the_last(self):
        for seed, plant in enumerate(sample_plants()):
            stock = ordered_stock(plant, seed)
            for _ in range(4):
                before = words_of(plant, stock)
                sold, chain, stock = simulate_day(plant, stock)
                for station in stations(plant):
                    turn = 1 if station in chain else 0
                    self.assertEqual(word(plant, stock, station), before[station][turn:] + before[station][:turn])

    def test_stocks_that_are_not_ordered_by_one_pair(self):
        for seed, plant in enumerate(sample_plants()):
            stock = list(ordered_stock(plant, seed))
            for lower in range(1, len(plant) + 1):
                changed = list(stock)
                upper = plant[lower - 1]
                changed[upper], changed[lower] = stock[lower], stock[upper]
                with self.assertRaises(NotOrdered):
                    words_of(plant, tuple(changed))
                with self.assertRaises(NotOrdered):
                    word(plant, tuple(changed), len(plant))


class PatternTest(unittest.TestCase):
    def test_all_words_of_small_plants_lead_back(self):
        for count in range(1, 6):
            for plant in all_plants(count):
                patterns = set()
                for words in all_words(plant):
                    self.assertIs(is_words(plant, words), True)
                    found = pattern_of_words(plant, words)
                    self.assertIs(ordered_by_definition(plant, found), True)
                    self.assertEqual(words_of(plant, found), words)
                    patterns.add(found)
                self.assertEqual(patterns, {stock for stock in all_patterns(plant)
                                            if ordered_by_definition(plant, stock)})

    def test_any_words_of_plants_of_all_sizes_lead_back(self):
        for seed, plant in enumerate(sample_plants()):
            words = any_words(plant, seed)
            self.assertIs(is_words(plant, words), True)
            found = pattern_of_words(plant, words)
            self.assertEqual(sorted(found), list(range(len(plant) + 1)))
            self.assertIs(ordered_by_definition(plant, found), True)
            self.assertEqual(words_of(plant, found), words)


class WordsAfterTest(unittest.TestCase):
    def test_near_days_against_the_simulation(self):
        for seed, plant in enumerate(sample_plants()):
            stock = ordered_stock(plant, seed)
            words = words_of(plant, stock)
            later = simulated_stocks(plant, stock, 2 * len(plant) + 3)
            for days in list(range(4)) + [len(plant), len(plant) + 1, len(later) - 1]:
                self.assertEqual(words_after(plant, words, days), words_by_definition(plant, later[days]))

    def test_every_near_day_of_small_plants(self):
        for count in range(1, 6):
            for plant in all_plants(count):
                for words in all_words(plant)[::3]:
                    later = simulated_stocks(plant, pattern_of_words(plant, words), 20)
                    for days, stock in enumerate(later):
                        self.assertEqual(words_after(plant, words, days), words_by_definition(plant, stock))

    def test_far_days_one_day_later(self):
        for seed, plant in enumerate(sample_plants()):
            words = any_words(plant, seed)
            source = random.Random(seed)
            for days in [10 ** 9, GREATEST - 1, source.randrange(GREATEST), source.randrange(10 ** 18)]:
                before = words_after(plant, words, days)
                later = simulate_day(plant, pattern_of_words(plant, before))[2]
                self.assertEqual(words_after(plant, words, days + 1), words_by_definition(plant, later))

    def test_some_days_and_then_some_more(self):
        for seed, plant in enumerate(sample_plants()):
            words = any_words(plant, seed)
            source = random.Random(seed)
            for most in [100, 10 ** 12, GREATEST]:
                days = source.randint(0, most)
                more = source.randint(0, most - days)
                for one, other in [(days, more), (0, most), (most, 0), (1, most - 1)]:
                    self.assertEqual(words_after(plant, words_after(plant, words, one), other),
                                     words_after(plant, words, one + other))

    def test_no_days(self):
        for seed, plant in enumerate(sample_plants()):
            words = any_words(plant, seed)
            self.assertEqual(words_after(plant, words, 0), words)


class AnyValueTest(RefusalCase):
    def check_no_words(self, plant, value):
        self.assertIs(is_words(plant, value), False, (plant, value))
        self.check_refused(NoWords, pattern_of_words, (plant, value))
        self.check_refused(NoWords, words_after, (plant, value, 1))

    def test_what_is_no_words(self):
        nested = [[1, 2, 2], [], [3], []]
        for _ in range(38):
            nested = [nested]
        for value in NOT_WORDS + [nested]:
            self.check_no_words(PLANT, value)

    def test_every_list_of_short_lists(self):
        plant = (0, 1)
        letters = [0, 1, 2, 3, -1, True, False, None, "1"]
        rows = [list(row) for length in range(4) for row in itertools.product(letters, repeat=length)]
        for row in rows:
            self.assertIs(is_words(plant, [row, [2], []]), repr(row) == "[1, 1]")
            self.assertIs(is_words(plant, [[1, 1], row, []]), repr(row) == "[2]")
            self.assertIs(is_words(plant, [[1, 1], [2], row]), row == [])

    def test_one_letter_changed_in_plants_of_all_sizes(self):
        for seed, plant in enumerate(sample_plants()):
            words = any_words(plant, seed)
            source = random.Random(seed)
            for station in stations(plant):
                for other in suppliers_of(plant, station):
                    self.check_changed_letter(plant, words, station, other, source)

    def check_changed_letter(self, plant, words, station, letter, source):
        place = source.choice([at for at, found in enumerate(words[station]) if found == letter])
        wrong = [other for other in range(-1, len(plant) + 3) if other != letter] + [True, False, None, str(letter)]
        changes = [[source.choice(wrong)], [], [letter, letter], [letter, 0]]
        for change in changes:
            changed = copy.deepcopy(words)
            changed[station][place:place + 1] = change
            self.assertIs(is_words(plant, changed), False)

    def test_lists_in_another_order_or_as_tuples(self):
        for seed, plant in enumerate(sample_plants()):
            words = any_words(plant, seed)
            self.assertIs(is_words(plant, tuple(words)), False)
            self.assertIs(is_words(plant, words[:-1] + [()]), False)
            self.assertIs(is_words(plant, [tuple(words[0])] + words[1:]), False)
            self.assertIs(is_words(plant, words + [[]]), False)
            self.assertIs(is_words(plant, words[:-1]), False)
            if plant:
                self.assertIs(is_words(plant, words[::-1]), False)

    def test_words_of_another_plant(self):
        self.check_no_words(WIDE, WORDS)
        self.check_no_words((), WORDS)
        self.check_no_words((0, 1, 1), WORDS)
        self.check_no_words((0, 0, 1), WORDS)

    def test_objects_of_other_classes(self):
        class Letter:
            def __eq__(self, other):
                return True

        for value in [Letter(), [Letter()] * 4, [[1, 2, Letter()], [], [3], []], [[1, 2, 2], [], [3], Letter()]]:
            self.assertIs(is_words(PLANT, value), False)


class NewListsTest(unittest.TestCase):
    def check_new(self, made, others):
        """No list of the words that were made is another one of them, or one of the others."""
        lists = [made] + made
        seen = [id(item) for item in lists]
        self.assertEqual(len(set(seen)), len(seen))
        self.assertEqual(set(seen) & {id(item) for other in others for item in [other] + other}, set())
        for item in lists:
            self.assertIs(type(item), list)

    def test_returned_lists_are_new(self):
        for seed, plant in enumerate(sample_plants()):
            stock = ordered_stock(plant, seed)
            words = words_of(plant, stock)
            kept = copy.deepcopy(words)
            made = [words]
            for days in [0, 0, 1, len(plant), GREATEST]:
                later = words_after(plant, words, days)
                self.check_new(later, made)
                made.append(later)
            self.check_new(words_of(plant, stock), made)
            for later in made[1:]:
                for letters in later:
                    letters.append(99)
                later.clear()
            self.assertEqual(words, kept)
            self.assertEqual(words_of(plant, stock), kept)

    def test_word_is_new(self):
        for station in stations(PLANT):
            found = word(PLANT, ORDERED, station)
            kept = list(found)
            found.append(99)
            self.assertEqual(word(PLANT, ORDERED, station), kept)

    def test_one_list_twice_in_the_argument(self):
        empty = []
        words = [[1, 2, 2], empty, [3], empty]
        self.assertIs(is_words(PLANT, words), True)
        for days in [0, 1, 5]:
            self.check_new(words_after(PLANT, words, days), [words])

    def test_arguments_do_not_change(self):
        for seed, plant in enumerate(sample_plants()):
            words = any_words(plant, seed)
            kept = copy.deepcopy(words)
            is_words(plant, words), pattern_of_words(plant, words)
            for days in [0, 1, 10 ** 20]:
                words_after(plant, words, days)
            self.assertEqual(words, kept)

    def test_later_changes_of_the_argument_have_no_effect(self):
        words = [[1, 2, 2], [], [3], []]
        later = words_after(PLANT, words, 0)
        found = pattern_of_words(PLANT, words)
        words[0][0] = 7
        words[1].append(8)
        self.assertEqual(later, [[1, 2, 2], [], [3], []])
        self.assertEqual(found, (0, 1, 2, 3))

    def test_kinds_of_results(self):
        self.assertIs(type(pattern_of_words(PLANT, WORDS)), tuple)
        for part in pattern_of_words(PLANT, WORDS) + tuple(word(PLANT, ORDERED, 0)):
            self.assertIs(type(part), int)

    def test_longest_words(self):
        for plant in [chain_plant(40), star_plant(40), any_plant(40, 3)]:
            words = [letters_by_definition(plant, station) for station in stations(plant)]
            self.assertIs(is_words(plant, words), True)
            self.assertIs(is_words(plant, [letters[::-1] for letters in words]), True)


class ErrorsTest(RefusalCase):
    plant_and_stock = [(NoPlant, 0, NOT_PLANTS), (NoStock, 1, NOT_STOCKS)]

    def test_word(self):
        self.check_refusals(word, (PLANT, ORDERED, 2), self.plant_and_stock + [
            (NoStation, 2, NOT_STATIONS), (NotOrdered, 1, NOT_ORDERED)])

    def test_words_of(self):
        self.check_refusals(words_of, (PLANT, ORDERED), self.plant_and_stock + [(NotOrdered, 1, NOT_ORDERED)])

    def test_is_words(self):
        for value in [WORDS, []] + OTHER_KINDS:
            self.check_refusals(is_words, (PLANT, value), [(NoPlant, 0, NOT_PLANTS)])

    def test_pattern_of_words(self):
        self.check_refusals(pattern_of_words, (PLANT, WORDS), [(NoPlant, 0, NOT_PLANTS), (NoWords, 1, NOT_WORDS)])

    def test_words_after(self):
        self.check_refusals(words_after, (PLANT, WORDS, 2), [
            (NoPlant, 0, NOT_PLANTS), (NoWords, 1, NOT_WORDS), (NoDays, 2, NOT_FAR_NUMBERS)])

    def test_least_and_greatest_numbers(self):
        for plant in sample_plants():
            words = any_words(plant, 5)
            for days in [0, 1, GREATEST]:
                words_after(plant, words, days)
            for days in [-1, GREATEST + 1]:
                self.check_refused(NoDays, words_after, (plant, words, days))
            stock = ordered_stock(plant, 5)
            for station in [0, len(plant)]:
                word(plant, stock, station)
            for station in [-1, len(plant) + 1]:
                self.check_refused(NoStation, word, (plant, stock, station))


if __name__ == "__main__":
    unittest.main()
