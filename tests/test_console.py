import random
import re
import unittest

from pulltree.console import Console
from pulltree.cycles import cycle_length
from pulltree.errors import Full, NoDays, NoRow, NoStation, NoText, NotOrdered, Nothing, PlantError
from pulltree.far import maker_on
from pulltree.live import LivePlant
from pulltree.ordering import days_until_ordered, is_ordered
from pulltree.sales import sold_on
from pulltree.texts import show_plant
from pulltree.words import word
from simulation import (any_plant, any_stock, chain_plant, ordered_stock, sample_plants, simulate_day, star_plant,
                        stations, suppliers_of)
from values import GREATEST, ORDERED, OTHER_KINDS, PLANT, STOCK, WIDE

ALONE = ["day", "remove", "undo", "stock", "wait", "cycle"]

WITH_NUMBER = ["sell", "days", "add", "word", "sold", "maker"]

ROW = re.compile(r"open .*|day|remove|undo|stock|wait|cycle|(sell|days|add|word|sold|maker) (0|[1-9][0-9]{0,30})")

LONGEST = 10 ** 40 - 1


def row_to_open(plant, stock):
    return "open " + show_plant(plant, stock)[:-1].replace("\n", ";")


def opened(plant, stock):
    console = Console()
    assert console.say(row_to_open(plant, stock)) == "ok"
    return console


def answer_of_functions(live, row):
    """What the document says that a row other than `open` answers; may change the live plant."""
    name, *numbers = row.split(" ")
    numbers = [int(number) for number in numbers]
    if name in ("day", "sell"):
        return str(getattr(live, name)(*numbers))
    if name in ("days", "add", "remove", "undo"):
        getattr(live, name)(*numbers)
        return "ok"
    plant, stock = live.plant(), live.stock()
    return {"stock": lambda: " ".join(str(box) for box in stock),
            "wait": lambda: str(days_until_ordered(plant, stock)),
            "cycle": lambda: str(cycle_length(plant, stock)),
            "word": lambda: " ".join(str(letter) for letter in word(plant, stock, *numbers)),
            "sold": lambda: str(sold_on(plant, stock, *numbers)),
            "maker": lambda: str(maker_on(plant, stock, *numbers))}[name]()


def outcome(function, *arguments):
    """The answer, or the class of the error."""
    try:
        return function(*arguments)
    except PlantError as error:
        return type(error)


def any_row(source, count):
    name = source.choice(ALONE + WITH_NUMBER)
    if name in ALONE:
        return name
    if name in ("sell", "add", "word"):
        return f"{name} {source.randint(0, count)}"
    return f"{name} {source.choice([0, 1, 2, 9, 10 ** 9, GREATEST, GREATEST + 1, source.randint(1, 60)])}"


class ConsoleCase(unittest.TestCase):
    def check_refused(self, console, error, row):
        """The error is raised, and nothing has changed."""
        before = outcome(console.say, "stock"), outcome(console.say, "wait"), outcome(console.say, "cycle")
        shown = repr(row)
        with self.assertRaises(ValueError, msg=shown) as caught:
            console.say(row)
        self.assertIs(type(caught.exception), error, shown)
        self.assertEqual(repr(row), shown)
        after = outcome(console.say, "stock"), outcome(console.say, "wait"), outcome(console.say, "cycle")
        self.assertEqual(after, before)


class ExamplesTest(ConsoleCase):
    def test_examples_of_the_document(self):
        console = Console()
        self.assertEqual(console.say("open shop 4;0 3;0 2;2 1"), "ok")
        self.assertEqual([console.say("day"), console.say("sold 1"), console.say("maker 2"), console.say("wait")],
                         ["4", "2", "1", "1"])

    def test_each_row(self):
        console = opened(PLANT, STOCK)
        said = [console.say(row) for row in [
            "stock", "wait", "cycle", "sold 1", "sold 1000000000", "maker 1", "day", "stock", "days 1", "stock", "wait",
            "word 0", "word 1", "word 2", "word 3", "sell 2", "stock", "undo", "stock", "add 1", "stock", "word 1",
            "remove", "remove", "stock", "undo", "undo", "undo", "undo", "undo", "stock"]]
        self.assertEqual(said, [
            "4 3 2 1", "2", "3", "4", "1000000000", "3", "4", "2 3 1 5", "ok", "1 3 5 6", "0",
            "1 2 2", "", "3", "", "5", "1 3 6 7", "ok", "1 3 5 6", "ok", "1 3 5 6 7", "4",
            "ok", "ok", "1 3 5", "ok", "ok", "ok", "ok", "ok", "4 3 2 1"])
        self.check_refused(console, Nothing, "undo")

    def test_plant_of_one_station(self):
        console = Console()
        self.assertEqual(console.say("open shop -7"), "ok")
        rows = ["stock", "wait", "cycle", "word 0", "sold 1", "sold 2", "maker 5", "day", "sell 0", "stock",
                f"days {GREATEST}", "stock"]
        self.assertEqual([console.say(row) for row in rows], [
            "-7", "0", "1", "", "-7", "-6", "0", "-7", "-6", "-5", "ok", str(GREATEST - 5)])
        self.check_refused(console, NoStation, "remove")


class SessionsTest(ConsoleCase):
    def check_row(self, console, live, row):
        expected = outcome(answer_of_functions, live, row)
        found = outcome(console.say, row)
        self.assertEqual(found, expected, row)
        self.assertIn(type(found), [str, type])
        self.assertEqual(console.say("stock"), " ".join(str(box) for box in live.stock()))
        return found

    def test_answers_are_those_of_the_functions_and_of_a_live_plant(self):
        found = set()
        for seed, plant in enumerate(sample_plants()):
            source = random.Random(seed)
            stock = any_stock(plant, seed) if seed % 2 else ordered_stock(plant, seed)
            if max(abs(box) for box in stock) > LONGEST:
                continue
            console, live = opened(plant, stock), LivePlant(plant, stock=stock)
            for _ in range(25):
                found.add(self.check_row(console, live, any_row(source, len(live))))
        self.assertLessEqual({"ok", "", "1", NoStation, NoDays, NotOrdered, Nothing, Full}, found)

    def test_sold_and_maker_tell_of_the_days_from_now_on(self):
        for seed, plant in enumerate(sample_plants(1)):
            stock = tuple(range(10 ** 39, 10 ** 39 - len(plant) - 1, -1))
            console = opened(plant, stock)
            for _ in range(5):
                sold, chain, stock = simulate_day(plant, stock)
                self.assertEqual(console.say("sold 1"), str(sold))
                self.assertEqual(console.say("maker 1"), str(chain[-1]))
                self.assertEqual(console.say("day"), str(sold))

    def test_word_of_each_station(self):
        for seed, plant in enumerate(sample_plants(1)):
            stock = tuple(stations(plant))
            console = opened(plant, stock)
            for station in stations(plant):
                expected = " ".join(str(letter) for letter in word(plant, stock, station))
                self.assertEqual(console.say(f"word {station}"), expected)
                self.assertEqual(expected == "", suppliers_of(plant, station) == [])

    def test_opening_another_plant(self):
        console = opened(PLANT, STOCK)
        console.say("day")
        self.assertEqual(console.say(row_to_open(WIDE, (0, 1, 2, 3, 4, 5))), "ok")
        self.assertEqual([console.say("stock"), console.say("cycle")], ["0 1 2 3 4 5", "10"])
        self.check_refused(console, Nothing, "undo")
        self.assertEqual(console.say(row_to_open((), (-1,))), "ok")
        self.assertEqual(console.say("stock"), "-1")

    def test_two_consoles_side_by_side(self):
        one, other = opened(PLANT, STOCK), Console()
        self.check_refused(other, NoRow, "stock")
        other.say(row_to_open(PLANT, STOCK))
        one.say("day")
        other.say("remove")
        self.assertEqual([one.say("stock"), other.say("stock")], ["2 3 1 5", "4 3 2"])
        one.say("undo")
        self.check_refused(one, Nothing, "undo")
        self.assertEqual([one.say("stock"), other.say("undo"), other.say("stock")], ["4 3 2 1", "ok", "4 3 2 1"])

    def test_the_longest_rows(self):
        for plant in [chain_plant(40), star_plant(40), any_plant(40, 1)]:
            for stock in [tuple(range(-LONGEST, -LONGEST + 40)), tuple(range(LONGEST, LONGEST - 40, -1))]:
                row = row_to_open(plant, stock)
                self.assertGreater(len(row), 40 * 42)
                console = Console()
                self.assertEqual(console.say(row), "ok")
                self.assertEqual(console.say("stock"), " ".join(str(box) for box in stock))
                self.check_refused(console, Full, "add 0")

    def test_boxes_that_grow_beyond_40_digits(self):
        console = opened((0,), (1, LONGEST))
        self.assertEqual([console.say("day"), console.say("stock")], ["1", f"{LONGEST} {10 ** 40}"])


class RowsTest(ConsoleCase):
    def check_any_row(self, row):
        """Rows of the forms raise NoRow only where there is no live plant; all others always do."""
        valid = isinstance(row, str) and ROW.fullmatch(row) is not None
        for console in [opened(PLANT, ORDERED), opened(PLANT, STOCK)]:
            if valid:
                self.assertIsNot(outcome(console.say, row), NoRow, row)
            else:
                self.check_refused(console, NoRow, row)
        if not valid or not row.startswith("open "):
            self.check_refused(Console(), NoRow, row)
        return valid

    def test_rows_with_one_change(self):
        signs = " \n-+0;.aysd\t\r\x0b\x1c\x85\u0663\u00b2\xa0"
        found = 0
        rows = ALONE + [f"{name} {number}" for name, number in zip(WITH_NUMBER, [1, 2, 3, 0, 31, 10])]
        for row in rows + ["open shop 1"]:
            for at in range(len(row) + 1):
                found += self.check_any_row(row[:at] + row[at + 1:])
                for sign in signs:
                    found += self.check_any_row(row[:at] + sign + row[at:])
                    found += self.check_any_row(row[:at] + sign + row[at + 1:])
        self.assertGreater(found, 60)

    def test_numbers(self):
        for name in WITH_NUMBER:
            for number in ["0", "1", "10", "9" * 31, "1" + "0" * 30]:
                self.assertIs(self.check_any_row(f"{name} {number}"), True)
            for number in ["", " ", "00", "01", "000", "0" * 31, "0" * 30 + "1", "9" * 32, "1" + "0" * 31, "9" * 4900,
                           "-1", "-0", "+1", "1.0", "1_0", "0x1", "one", "None", "True", "1 ", " 1", "1 1", "1;", "1,"]:
                self.assertIs(self.check_any_row(f"{name} {number}"), False)

    def test_spaces(self):
        for name in ALONE:
            for row in [f"{name} ", f" {name}", f"{name} 1", f"{name} 0", f"{name}\n", f"{name}\t", f"{name};",
                        name * 2]:
                self.assertIs(self.check_any_row(row), False)
        for name in WITH_NUMBER:
            for row in [name, f"{name} ", f"{name}  1", f" {name} 1", f"{name} 1 ", f"{name} 1 2", f"{name}1",
                        f"{name}\t1", f"{name} 1\n", f"\n{name} 1", f"{name}\n1"]:
                self.assertIs(self.check_any_row(row), False)

    def test_other_rows(self):
        kinds = [0, 1, ["day"], ("day",), b"day", {"day": 1}, 10 ** 36, PLANT]
        names = ["log", "plant", "len", "Day", "DAY", "days", "sells 1", "say day", "close", "quit", "day day",
                 "wait 1", "open", "Open shop 1", "open;shop 1", "openshop 1", " open shop 1", "open\tshop 1",
                 "opens shop 1"]
        for row in OTHER_KINDS + kinds + names + ["", " ", "  ", "\n", "x" * 5000]:
            self.assertIs(self.check_any_row(row), False)

    def test_rows_that_need_a_live_plant(self):
        rows = [f"{name} {number}" for name in WITH_NUMBER for number in [0, 1, 99, 10 ** 30, 10 ** 31 - 1]]
        for row in ALONE + rows:
            console = Console()
            self.check_refused(console, NoRow, row)
            self.check_refused(console, NoText, "open ")
            self.check_refused(console, NoRow, row)


class OpenTest(ConsoleCase):
    def test_texts_that_are_not_valid(self):
        texts = ["", " ", ";", "shop", "shop ", "shop 1;", ";shop 1", " shop 1", "shop 1 ", "shop  1", "shop -0",
                 "shop 01", "shop +1", "shop one", "Shop 1", "0 1", "1", "shop 1\t", "shop " + "1" * 41, "shop 1;0",
                 "shop 1;0 1", "shop 1;1 2", "shop 1;-1 2", "shop 1;0 2;", "shop 1;;0 2", "shop 1; 0 2", "shop 1,0 2",
                 "shop 1;shop 2", "shop 1;0 2;2 3;9 4", "shop 1;0 2\r", "x" * 4990, ";" * 4990,
                 "shop 1;" + ";".join(f"0 {box}" for box in range(2, 42))]
        for console in [Console(), opened(PLANT, STOCK), opened(PLANT, ORDERED)]:
            for text in texts:
                self.check_refused(console, NoText, "open " + text)

    def test_newlines_are_not_valid_in_any_row(self):
        for console in [Console(), opened(PLANT, STOCK)]:
            for row in ["open shop 1\n", "open \n", "open shop 1\n0 2", "open shop 1;0 2\n", "open\nshop 1",
                        "\nopen shop 1", "open shop 1\n;", "open nothing\n"]:
                self.check_refused(console, NoRow, row)

    def test_a_live_plant_stays_when_another_one_is_not_valid(self):
        console = opened(PLANT, STOCK)
        console.say("day")
        self.check_refused(console, NoText, "open shop 1;0 1")
        self.check_refused(console, NoRow, "open")
        said = [console.say(row) for row in ["stock", "undo", "stock"]]
        self.assertEqual(said, ["2 3 1 5", "ok", "4 3 2 1"])

    def test_numbers_of_40_digits(self):
        for box in [0, 1, -1, 10 ** 39, LONGEST, -LONGEST]:
            console = Console()
            self.assertEqual(console.say(f"open shop {box};0 5"), "ok")
            self.assertEqual(console.say("stock"), f"{box} 5")


class ErrorsTest(ConsoleCase):
    def test_errors_of_the_functions(self):
        for console in [opened(PLANT, ORDERED), opened(PLANT, STOCK)]:
            for name in ["sell", "add", "word"]:
                for station in [4, 5, 40, 10 ** 30, 10 ** 31 - 1]:
                    self.check_refused(console, NoStation, f"{name} {station}")
            for name in ["days", "sold", "maker"]:
                for number in [0, GREATEST + 1, 10 ** 31 - 1]:
                    self.check_refused(console, NoDays, f"{name} {number}")
            self.check_refused(console, Nothing, "undo")

    def test_word_of_a_stock_that_is_not_ordered(self):
        console = opened(PLANT, STOCK)
        for station in stations(PLANT):
            self.check_refused(console, NotOrdered, f"word {station}")
        self.check_refused(console, NoStation, "word 4")
        console.say("days 2")
        self.assertEqual(console.say("word 0"), "1 2 2")
        self.assertIs(is_ordered(PLANT, ORDERED), True)

    def test_full_and_empty(self):
        console = opened(star_plant(40), tuple(range(40)))
        self.check_refused(console, Full, "add 39")
        self.check_refused(console, NoStation, "add 40")
        self.assertEqual([console.say("remove"), console.say("add 38")], ["ok", "ok"])
        self.check_refused(console, Full, "add 0")
        console = opened((0,), (1, 2))
        self.assertEqual(console.say("remove"), "ok")
        self.check_refused(console, NoStation, "remove")
        self.check_refused(console, NoStation, "sell 1")

    def test_refused_rows_are_not_undone(self):
        console = opened(PLANT, STOCK)
        console.say("day")
        for row in ["days 0", "sell 9", "add 9", "sell 01", "day ", "open "]:
            self.assertIn(outcome(console.say, row), [NoDays, NoStation, NoRow, NoText])
        self.assertEqual([console.say("undo"), console.say("stock")], ["ok", "4 3 2 1"])
        self.check_refused(console, Nothing, "undo")


if __name__ == "__main__":
    unittest.main()
