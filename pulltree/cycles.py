"""Cycles: the patterns that come again and again once a stock is ordered."""

from pulltree.checks import check_plant, check_station, check_stock
from pulltree.emptyings import common_divisor
from pulltree.errors import TooMany
from pulltree.ordering import check_ordered, days_to_order
from pulltree.plants import supplier_lists
from pulltree.stocks import pass_day, ranks_of
from pulltree.words import words_by_age

MOST_LISTED = 200

MOST_SEARCHED = 5000


def word_period(plant, stock, station):
    """Returns the least number of letters by which the word of a station can be rotated unchanged."""
    check_plant(plant)
    check_stock(plant, stock)
    check_station(plant, station)
    check_ordered(plant, stock)
    return period_of(words_by_age(plant, stock)[station])


def cycle_length(plant, stock):
    """Returns the number of patterns of the cycle of a stock."""
    check_plant(plant)
    check_stock(plant, stock)
    chains, ordered = days_to_order(plant, stock)
    return length_of_cycle(plant, ordered)


def cycle_of(plant, stock):
    """Returns the patterns of the cycle of a stock."""
    check_plant(plant)
    check_stock(plant, stock)
    chains, ordered = days_to_order(plant, stock)
    length = length_of_cycle(plant, ordered)
    check_length(length, MOST_LISTED)
    return next_patterns(plant, ordered, length)


def days_between(plant, stock, other):
    """Returns the least number of days from one ordered pattern to another one, or None."""
    check_plant(plant)
    check_stock(plant, stock)
    check_stock(plant, other)
    check_ordered(plant, stock)
    check_ordered(plant, other)
    length = length_of_cycle(plant, stock)
    check_length(length, MOST_SEARCHED)
    return days_to_pattern(plant, stock, ranks_of(other), length)


def check_length(length, most):
    """Raises TooMany if a cycle is longer than this."""
    if length > most:
        raise TooMany(length)


def period_of(letters):
    """Returns the least positive number of letters by which a word can be rotated unchanged."""
    for many in range(1, len(letters)):
        if letters[many:] + letters[:many] == letters:
            return many
    # The word of a maker has no letters.
    return max(1, len(letters))


def length_of_cycle(plant, stock):
    """Returns the number of days after which the pattern of an ordered stock comes again."""
    words = words_by_age(plant, stock)
    givers = supplier_lists(plant)
    # For each station: after how many of its emptyings the words at and below it
    # are again what they were. The suppliers have greater numbers and come first.
    lengths = [1] * len(stock)
    for station in range(len(plant), -1, -1):
        period = period_of(words[station])
        rounds = 1
        for supplier in givers[station]:
            times = words[station][:period].count(supplier)
            rounds = common_multiple(rounds, lengths[supplier] // common_divisor(lengths[supplier], times))
        lengths[station] = period * rounds
    return lengths[0]


def common_multiple(one, other):
    """Returns the least common multiple of two positive integers."""
    return one // common_divisor(one, other) * other


def next_patterns(plant, stock, many):
    """Returns so many patterns, from that of an ordered stock on."""
    givers = supplier_lists(plant)
    boxes = list(ranks_of(stock))
    patterns = []
    for day in range(many):
        # On each day the oldest box is sold: all numbers are one greater the day after.
        patterns.append(tuple([box - day for box in boxes]))
        pass_day(givers, boxes)
    return patterns


def days_to_pattern(plant, stock, ranks, many):
    """Returns the first one of so many days, from 0 on, with this pattern, or None."""
    givers = supplier_lists(plant)
    boxes = list(ranks_of(stock))
    for day in range(many):
        if boxes == [rank + day for rank in ranks]:
            return day
        pass_day(givers, boxes)
    return None
