"""The console: rows of words that work on a live plant."""

from pulltree.checks import is_decimal
from pulltree.cycles import cycle_length
from pulltree.errors import NoRow
from pulltree.far import maker_on
from pulltree.live import LivePlant
from pulltree.ordering import days_until_ordered
from pulltree.sales import sold_on
from pulltree.texts import read_plant
from pulltree.words import word

MOST_DIGITS = 31

DONE = "ok"


def say_day(live):
    """Answers `day`."""
    return str(live.day())


def say_remove(live):
    """Answers `remove`."""
    live.remove()
    return DONE


def say_undo(live):
    """Answers `undo`."""
    live.undo()
    return DONE


def say_stock(live):
    """Answers `stock`."""
    return spaced(live.stock())


def say_wait(live):
    """Answers `wait`."""
    return str(days_until_ordered(live.plant(), live.stock()))


def say_cycle(live):
    """Answers `cycle`."""
    return str(cycle_length(live.plant(), live.stock()))


def say_sell(live, station):
    """Answers `sell STATION`."""
    return str(live.sell(station))


def say_days(live, many):
    """Answers `days N`."""
    live.days(many)
    return DONE


def say_add(live, station):
    """Answers `add STATION`."""
    live.add(station)
    return DONE


def say_word(live, station):
    """Answers `word STATION`."""
    return spaced(word(live.plant(), live.stock(), station))


def say_sold(live, day):
    """Answers `sold DAY`."""
    return str(sold_on(live.plant(), live.stock(), day))


def say_maker(live, day):
    """Answers `maker DAY`."""
    return str(maker_on(live.plant(), live.stock(), day))


def spaced(numbers):
    """Returns the numbers, separated by spaces."""
    return " ".join([str(number) for number in numbers])


ALONE = {"day": say_day, "remove": say_remove, "undo": say_undo, "stock": say_stock, "wait": say_wait,
         "cycle": say_cycle}

WITH_NUMBER = {"sell": say_sell, "days": say_days, "add": say_add, "word": say_word, "sold": say_sold,
               "maker": say_maker}


class Console:
    """Holds a live plant, at first none, and executes rows on it."""

    def __init__(self):
        self.live = None

    def say(self, row):
        """Executes a row; returns its answer."""
        check_row(isinstance(row, str) and "\n" not in row)
        if row.startswith("open "):
            self.live = live_plant_of(row.removeprefix("open "))
            return DONE
        check_row(self.live is not None)
        return answer(self.live, row.split(" "))


def live_plant_of(text):
    """Returns a live plant of a text that has semicolons in place of newlines, and none at its end."""
    plant, stock = read_plant(text.replace(";", "\n") + "\n")
    return LivePlant(plant, stock=stock)


def answer(live, parts):
    """Executes the row of these parts on a live plant; returns its answer."""
    if len(parts) == 1 and parts[0] in ALONE:
        act = ALONE[parts[0]]
        return act(live)
    check_row(len(parts) == 2 and parts[0] in WITH_NUMBER and is_decimal(parts[1], MOST_DIGITS))
    act = WITH_NUMBER[parts[0]]
    return act(live, int(parts[1]))


def check_row(holds):
    """Raises NoRow unless this holds of a row."""
    if not holds:
        raise NoRow("this is not a row that can be executed now")
