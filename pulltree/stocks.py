"""Stocks: the boxes of a plant, day by day."""

from pulltree.checks import check_days, check_plant, check_stock, fits_stock
from pulltree.plants import supplier_lists

MOST_DAYS = 2000


def is_stock(plant, value):
    """Tells whether a value is a stock of the plant. Accepts any value."""
    check_plant(plant)
    return fits_stock(plant, value)


def pattern(plant, stock):
    """Returns the ranks of the boxes, from 0 for the oldest one."""
    check_plant(plant)
    check_stock(plant, stock)
    return ranks_of(stock)


def after_day(plant, stock):
    """Returns the box sold on the next day, the chain and the later stock."""
    check_plant(plant)
    check_stock(plant, stock)
    boxes = list(stock)
    sold, chain = pass_day(supplier_lists(plant), boxes)
    return sold, chain, tuple(boxes)


def run(plant, stock, days):
    """Returns the stock after this number of days."""
    rows, later = first_days(plant, stock, days)
    return later


def record(plant, stock, days):
    """Returns the sold box and the chain of each of the first days."""
    rows, later = first_days(plant, stock, days)
    return rows


def first_days(plant, stock, days):
    """Returns the rows (sold, chain) of the first days, and the stock after them."""
    check_plant(plant)
    check_stock(plant, stock)
    check_days(days, 0, MOST_DAYS)
    givers = supplier_lists(plant)
    boxes = list(stock)
    rows = []
    for day in range(days):
        sold, chain = pass_day(givers, boxes)
        rows.append((sold, tuple(chain)))
    return rows, tuple(boxes)


def ranks_of(stock):
    """Returns the pattern of a checked stock."""
    ranks = {box: rank for rank, box in enumerate(sorted(stock))}
    return tuple([ranks[box] for box in stock])


def pass_day(givers, boxes, first=0):
    """Changes the list of boxes by one day; returns the box sold at the first station, and the chain."""
    # The box that is sold counts, too: the greatest number is that before the day.
    fresh = max(boxes) + 1
    sold = boxes[first]
    empty = first
    chain = [empty]
    while givers[empty]:
        giver = oldest_giver(givers[empty], boxes)
        boxes[empty] = boxes[giver]
        empty = giver
        chain.append(empty)
    boxes[empty] = fresh
    return sold, chain


def oldest_giver(stations, boxes):
    """Returns the one of the stations that holds the oldest box."""
    return min(stations, key=lambda station: boxes[station])
