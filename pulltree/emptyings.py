"""Emptyings: how often and when a station is emptied."""

from pulltree.checks import FARTHEST_DAY, check_days, check_plant, check_station, check_stock, check_supplier
from pulltree.ordering import check_ordered, days_to_order
from pulltree.plants import all_sizes, path_up
from pulltree.words import emptied_by_words, times_given, words_by_age


def emptied(plant, stock, station, days):
    """Returns on how many of the first days a station is emptied."""
    check_plant(plant)
    check_stock(plant, stock)
    check_station(plant, station)
    check_days(days, 0, FARTHEST_DAY)
    chains, ordered = days_to_order(plant, stock)
    early = len(days_with(chains[:days], station))
    if days <= len(chains):
        return early
    return early + emptied_by_words(plant, words_by_age(plant, ordered), days - len(chains))[station]


def nth_emptying(plant, stock, station, number):
    """Returns the day on which a station is emptied after this number of earlier emptyings."""
    check_plant(plant)
    check_stock(plant, stock)
    check_station(plant, station)
    check_days(number, 0, FARTHEST_DAY)
    return emptying_day(plant, stock, station, number)


def share(plant, station):
    """Returns the share (top, bottom) of the days on which a station is emptied in the long run."""
    check_plant(plant)
    check_station(plant, station)
    sizes = all_sizes(plant)
    path = path_up(plant, station)
    top = bottom = 1
    for supplier, above in zip(path, path[1:]):
        top *= sizes[supplier]
        bottom *= sizes[above] - 1
    divisor = common_divisor(top, bottom)
    return top // divisor, bottom // divisor


def emptied_within(plant, stock, station, supplier, many):
    """Returns how often a supplier is emptied during the next emptyings of its customer."""
    check_plant(plant)
    check_stock(plant, stock)
    check_station(plant, station)
    check_supplier(plant, station, supplier)
    check_days(many, 0, FARTHEST_DAY)
    check_ordered(plant, stock)
    return times_given(words_by_age(plant, stock)[station], supplier, many)


def days_with(chains, station):
    """Returns the days, from 1 on, on whose chains the station is."""
    return [day for day, chain in enumerate(chains, 1) if station in chain]


def emptying_day(plant, stock, station, number):
    """Returns the day of the emptying of a station after any number of earlier ones."""
    chains, ordered = days_to_order(plant, stock)
    early = days_with(chains, station)
    if number < len(early):
        return early[number]
    words = words_by_age(plant, ordered)
    path = path_up(plant, station)
    earlier = number - len(early)
    for supplier, above in zip(path, path[1:]):
        earlier = earlier_emptyings(words[above], supplier, earlier)
    return len(chains) + earlier + 1


def earlier_emptyings(letters, supplier, number):
    """Returns how often the station with this word is emptied before it empties the supplier
    for the first time after this number of times."""
    places = [at for at, letter in enumerate(letters) if letter == supplier]
    rounds, rest = divmod(number, len(places))
    return rounds * len(letters) + places[rest]


def common_divisor(one, other):
    """Returns the greatest common divisor of two positive integers."""
    while other:
        one, other = other, one % other
    return one
