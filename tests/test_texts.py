import itertools
import random
import re
import unittest

from pulltree.errors import NoPlant, NoStock, NoText
from pulltree.far import stock_after
from pulltree.texts import read_plant, show_plant
from refusals import RefusalCase
from simulation import (all_patterns, all_plants, any_plant, any_stock, chain_plant, customer_of, plant_by_definition,
                        sample_plants, star_plant, stations)
from values import GREATEST, NOT_PLANTS, NOT_STOCKS, ORDERED, OTHER_KINDS, PLANT, STOCK

TEXT = "shop 1\n0 3\n0 5\n2 6\n"

LONGEST = 10 ** 40 - 1


def text_by_definition(plant, stock):
    text = ""
    for station in stations(plant):
        text += ("shop" if station == 0 else str(customer_of(plant, station))) + " " + str(stock[station]) + "\n"
    return text


def plant_of_text(text):
    """The plant and the stock of a text, or None."""
    if not isinstance(text, str) or not re.fullmatch(r"shop \S+\n(\S+ \S+\n)*", text):
        return None
    rows = [line.split(" ") for line in text[:-1].split("\n")]
    for number in [row[0] for row in rows[1:]] + [row[1] for row in rows]:
        if not re.fullmatch(r"0|-?[1-9][0-9]{0,39}", number):
            return None
    plant = tuple(int(row[0]) for row in rows[1:])
    stock = tuple(int(row[1]) for row in rows)
    if not plant_by_definition(plant) or len(set(stock)) < len(stock):
        return None
    return plant, stock


class TextCase(RefusalCase):
    def check_text(self, text):
        expected = plant_of_text(text)
        if expected is None:
            self.check_refused(NoText, read_plant, (text,))
        else:
            self.assertEqual(read_plant(text), expected)
        return expected


class ExamplesTest(RefusalCase):
    def test_examples_of_the_document(self):
        self.assertEqual(show_plant(PLANT, ORDERED), TEXT)
        self.check_refused(NoText, read_plant, ("shop 1\n0 1\n",))
        self.assertEqual(read_plant(TEXT), (PLANT, ORDERED))

    def test_plant_of_one_station(self):
        for box in [0, 7, -7, LONGEST, -LONGEST]:
            self.assertEqual(show_plant((), (box,)), f"shop {box}\n")
            self.assertEqual(read_plant(f"shop {box}\n"), ((), (box,)))


class ShowTest(unittest.TestCase):
    def test_every_small_plant(self):
        for count in range(1, 5):
            for plant in all_plants(count):
                for stock in all_patterns(plant):
                    self.assertEqual(show_plant(plant, stock), text_by_definition(plant, stock))
                    self.assertEqual(read_plant(show_plant(plant, stock)), (plant, stock))

    def test_plants_of_all_sizes(self):
        for seed, plant in enumerate(sample_plants()):
            stock = tuple(min(LONGEST, max(-LONGEST, box)) for box in any_stock(plant, seed))
            text = show_plant(plant, stock)
            self.assertEqual(text, text_by_definition(plant, stock))
            self.assertEqual(read_plant(text), (plant, stock))

    def test_the_longest_texts(self):
        for plant in [chain_plant(40), star_plant(40), any_plant(40, 1)]:
            for stock in [tuple(range(-LONGEST, -LONGEST + 40)), tuple(range(LONGEST, LONGEST - 40, -1))]:
                text = show_plant(plant, stock)
                self.assertGreater(len(text), 40 * 43)
                self.assertEqual(text, text_by_definition(plant, stock))
                self.assertEqual(read_plant(text), (plant, stock))

    def test_far_stocks(self):
        later = stock_after(PLANT, STOCK, GREATEST)
        self.assertEqual(read_plant(show_plant(PLANT, later)), (PLANT, later))

    def test_boxes_of_more_than_40_digits_are_shown_but_not_read(self):
        for box in [10 ** 40, -10 ** 40]:
            self.assertEqual(show_plant((0,), (1, box)), f"shop 1\n0 {box}\n")
            with self.assertRaises(NoText):
                read_plant(show_plant((0,), (1, box)))


class ReadTest(TextCase):
    def test_every_text_with_one_change(self):
        signs = " \n-+0123569;.,_shopSe\t\r\x0b\x0c\x1c\x85\u2028\u0663\u00b2\xa0"
        for text in [TEXT, "shop -1\n0 0\n1 10\n", "shop 0\n"]:
            found = 0
            for at in range(len(text) + 1):
                self.check_text(text[:at] + text[at + 1:])
                for sign in signs:
                    found += self.check_text(text[:at] + sign + text[at:]) is not None
                    found += self.check_text(text[:at] + sign + text[at + 1:]) is not None
            self.assertGreater(found, 10)

    def test_all_short_lines(self):
        parts = ["shop", "0", "1", "-1", "-0", "00", "01", "", " ", "s", "--1", "+1", "1 ", " 1", "1 2", "1_0", "0x1",
                 "1.0"]
        found = 0
        for one, other in itertools.product(parts, repeat=2):
            found += self.check_text(f"{one} {other}\n") is not None
            found += self.check_text(f"shop 5\n{one} {other}\n") is not None
            found += self.check_text(f"shop 5\n0 6\n{one} {other}\n") is not None
        self.assertEqual(found, 3 + 3 + 6)

    def test_newlines(self):
        for end in ["\r\n", "\r", ";", " ", "", " \n", "\n\n", "\n "]:
            self.assertIsNone(self.check_text(TEXT.replace("\n", end)))
        for text in ["", "\n", "\n\n", TEXT[:-1], TEXT + "\n", "\n" + TEXT, TEXT + " ", TEXT + " \n",
                     TEXT.replace("\n", "\n\n", 1), "shop\n1\n", "shop 1"]:
            self.assertIsNone(self.check_text(text))

    def test_numbers_of_40_and_41_digits(self):
        for text in ["shop {}\n", "shop 5\n0 {}\n", "shop 5\n0 6\n1 {}\n"]:
            for number in [LONGEST, -LONGEST, 10 ** 39, -10 ** 39]:
                self.assertIsNotNone(self.check_text(text.format(number)))
            for number in [10 ** 40, -10 ** 40, "0" * 40, "0" * 41, "0" + "1" * 39, "9" * 5000, "-" + "9" * 4900]:
                self.assertIsNone(self.check_text(text.format(number)))

    def test_customers(self):
        for customer in ["shop", "-1", "2", "3", "00", "-0", "1" * 41, "9" * 40, "", "0 0", "True", "None"]:
            self.assertIsNone(self.check_text(f"shop 5\n0 6\n{customer} 7\n"))
        for customer in ["0", "1"]:
            self.assertIsNotNone(self.check_text(f"shop 5\n0 6\n{customer} 7\n"))
        self.assertIsNone(self.check_text("0 5\n0 6\n"))
        self.assertIsNone(self.check_text("0 6\nshop 5\n"))
        self.assertIsNone(self.check_text("Shop 5\n"))

    def test_same_boxes(self):
        self.assertIsNone(self.check_text("shop 5\n0 6\n0 6\n"))
        self.assertIsNone(self.check_text(f"shop {LONGEST}\n0 1\n0 {LONGEST}\n"))
        self.assertIsNotNone(self.check_text("shop 5\n0 -5\n0 50\n"))

    def test_more_than_40_stations(self):
        lines = ["shop 100\n"] + [f"0 {station}\n" for station in range(1, 50)]
        for count in [1, 2, 39, 40]:
            self.assertIsNotNone(self.check_text("".join(lines[:count])))
        for count in [0, 41, 42, 50]:
            self.assertIsNone(self.check_text("".join(lines[:count])))

    def test_other_values(self):
        others = [value for value in OTHER_KINDS if value != "shop 1\n"]
        for value in others + [0, 1, PLANT, (PLANT, STOCK), [TEXT], (TEXT,), TEXT.encode(), {TEXT: TEXT},
                                    TEXT.split("\n"), 10 ** 36]:
            self.assertIsNone(self.check_text(value))

    def test_texts_of_changed_lines(self):
        source = random.Random(5)
        lines = ["shop 1", "0 3", "0 5", "2 6", "1 7", "3 8", "4 -9", "0 0", "-1 2", "2  4", " 1 4"]
        found = 0
        for _ in range(4000):
            chosen = ["shop 1"] * source.randint(0, 1) + [source.choice(lines) for _ in range(source.randint(0, 5))]
            found += self.check_text("".join(line + "\n" for line in chosen)) is not None
        self.assertGreater(found, 100)


class KindsTest(unittest.TestCase):
    def test_kinds_of_results(self):
        self.assertIs(type(show_plant(PLANT, STOCK)), str)
        found = read_plant(TEXT)
        self.assertEqual([type(part) for part in (found,) + found], [tuple] * 3)
        self.assertEqual({type(item) for part in found for item in part}, {int})


class ErrorsTest(RefusalCase):
    def test_show_plant(self):
        for stock in [STOCK, ORDERED]:
            self.check_refusals(show_plant, (PLANT, stock), [(NoPlant, 0, NOT_PLANTS), (NoStock, 1, NOT_STOCKS)])


if __name__ == "__main__":
    unittest.main()
