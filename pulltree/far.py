"""Far days: stocks, chains and boxes on days that are not gone one by one."""

from pulltree.checks import FARTHEST_DAY, check_days, check_maker, check_plant, check_station, check_stock
from pulltree.emptyings import emptying_day
from pulltree.ordering import days_to_order
from pulltree.stocks import run
from pulltree.words import ranks_by_words, turned_words, words_by_age


def stock_after(plant, stock, days):
    """Returns the stock after this number of days."""
    check_plant(plant)
    check_stock(plant, stock)
    check_days(days, 0, FARTHEST_DAY)
    return far_stock(plant, stock, days)


def chain_on(plant, stock, day):
    """Returns the chain of a day as a list."""
    check_plant(plant)
    check_stock(plant, stock)
    check_days(day, 1, FARTHEST_DAY)
    return far_chain(plant, stock, day)


def maker_on(plant, stock, day):
    """Returns the maker that makes a box on a day."""
    check_plant(plant)
    check_stock(plant, stock)
    check_days(day, 1, FARTHEST_DAY)
    return far_chain(plant, stock, day)[-1]


def box_at(plant, stock, station, days):
    """Returns the box at a station after this number of days."""
    check_plant(plant)
    check_stock(plant, stock)
    check_station(plant, station)
    check_days(days, 0, FARTHEST_DAY)
    return far_stock(plant, stock, days)[station]


def nth_made(plant, stock, maker, number):
    """Returns the box that a maker makes after this number of earlier ones."""
    check_plant(plant)
    check_stock(plant, stock)
    check_maker(plant, maker)
    check_days(number, 0, FARTHEST_DAY)
    return max(stock) + emptying_day(plant, stock, maker, number)


def far_stock(plant, stock, days):
    """Returns the stock after any number of days."""
    if days < len(stock):
        return run(plant, stock, days)
    chains, ordered = days_to_order(plant, stock)
    words = turned_words(plant, words_by_age(plant, ordered), days - len(chains))
    # Each box is sold n days after it was made: these are the boxes of the last n days.
    oldest = max(stock) + days - len(stock) + 1
    return tuple([oldest + rank for rank in ranks_by_words(words)])


def far_chain(plant, stock, day):
    """Returns the chain of any day."""
    chains, ordered = days_to_order(plant, stock)
    if day <= len(chains):
        return chains[day - 1]
    words = turned_words(plant, words_by_age(plant, ordered), day - 1 - len(chains))
    chain = [0]
    while words[chain[-1]]:
        chain.append(words[chain[-1]][0])
    return chain
