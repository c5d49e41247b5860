"""Ordered stocks: every box is older than all boxes below it."""

from pulltree.checks import check_plant, check_stock, fits_station
from pulltree.errors import NotOrdered
from pulltree.plants import path_up, supplier_lists
from pulltree.stocks import pass_day


def is_ordered(plant, stock):
    """Tells whether the stock is ordered."""
    check_plant(plant)
    check_stock(plant, stock)
    return last_disorder(plant, stock) is None


def disorder(plant, stock):
    """Returns the last disorder of a customer and its supplier, or None."""
    check_plant(plant)
    check_stock(plant, stock)
    return last_disorder(plant, stock)


def is_disorder(plant, stock, value):
    """Tells whether a value is a disorder of the stock. Accepts any value."""
    check_plant(plant)
    check_stock(plant, stock)
    if not isinstance(value, tuple) or len(value) != 2:
        return False
    upper, lower = value
    if not fits_station(plant, upper) or not fits_station(plant, lower):
        return False
    return upper in path_up(plant, lower) and stock[lower] < stock[upper]


def days_until_ordered(plant, stock):
    """Returns the least number of days after which the stock is ordered."""
    check_plant(plant)
    check_stock(plant, stock)
    chains, ordered = days_to_order(plant, stock)
    return len(chains)


def first_ordered(plant, stock):
    """Returns the stock after the least number of days that orders it."""
    check_plant(plant)
    check_stock(plant, stock)
    chains, ordered = days_to_order(plant, stock)
    return ordered


def last_disorder(plant, boxes):
    """Returns the disorder (customer, supplier) with the greatest supplier, or None."""
    # Where a box is older than one above it, some box on the way between them is
    # older than that of its customer: no other pairs need a look.
    for lower in range(len(plant), 0, -1):
        upper = plant[lower - 1]
        if boxes[lower] < boxes[upper]:
            return upper, lower
    return None


def days_to_order(plant, stock):
    """Returns the chains of the days until a checked stock is ordered, and that ordered stock."""
    givers = supplier_lists(plant)
    boxes = list(stock)
    chains = []
    while last_disorder(plant, boxes) is not None:
        sold, chain = pass_day(givers, boxes)
        chains.append(chain)
    return chains, tuple(boxes)


def check_ordered(plant, stock):
    """Raises NotOrdered unless the checked stock is ordered."""
    if last_disorder(plant, stock) is not None:
        raise NotOrdered("this stock is not ordered")
