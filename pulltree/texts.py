"""Texts: plants and stocks in lines."""

from pulltree.checks import check_plant, check_stock, fits_plant, fits_stock, is_decimal
from pulltree.errors import NoText

MOST_DIGITS = 40


def show_plant(plant, stock):
    """Returns the text of a plant and a stock."""
    check_plant(plant)
    check_stock(plant, stock)
    customers = ["shop"] + [str(station) for station in plant]
    return "".join([f"{station} {box}\n" for station, box in zip(customers, stock)])


def read_plant(text):
    """Returns the plant and the stock that a text describes. Accepts any value."""
    check_text(isinstance(text, str) and text.endswith("\n"))
    rows = [line.split(" ") for line in text.removesuffix("\n").split("\n")]
    check_text(all([len(row) == 2 for row in rows]) and rows[0][0] == "shop")
    plant = tuple([number_in(row[0]) for row in rows[1:]])
    stock = tuple([number_in(row[1]) for row in rows])
    check_text(fits_plant(plant) and fits_stock(plant, stock))
    return plant, stock


def check_text(holds):
    """Raises NoText unless this holds of a text."""
    if not holds:
        raise NoText("this is not the text of a plant and a stock")


def number_in(text):
    """Returns the number that a part of a text is; raises NoText if it is none."""
    check_text(is_decimal(text.removeprefix("-"), MOST_DIGITS) and text != "-0")
    return int(text)
