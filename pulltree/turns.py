"""Suppliers in turn: the days under the rule that a station takes from one supplier after the other."""

from pulltree.checks import FARTHEST_DAY, check_days, check_maker, check_plant, check_station, check_stock
from pulltree.plants import path_up, supplier_lists


def turn_days(plant, station):
    """Returns every how many days a station is emptied."""
    check_plant(plant)
    check_station(plant, station)
    firsts, steps = all_turns(plant)
    return steps[station]


def turn_time(plant, maker):
    """Returns the number of days from the making of a box by this maker to its sale."""
    check_plant(plant)
    check_maker(plant, maker)
    firsts, steps = all_turns(plant)
    return sum([steps[station] for station in path_up(plant, maker)])


def turn_chain(plant, day):
    """Returns the chain of a day as a list."""
    check_plant(plant)
    check_days(day, 1, FARTHEST_DAY)
    givers = supplier_lists(plant)
    chain = [0]
    earlier = day - 1
    while givers[chain[-1]]:
        stations = givers[chain[-1]]
        earlier, place = divmod(earlier, len(stations))
        chain.append(stations[place])
    return chain


def turn_stock_after(plant, stock, days):
    """Returns the stock after this number of days."""
    check_plant(plant)
    check_stock(plant, stock)
    check_days(days, 0, FARTHEST_DAY)
    firsts, steps = all_turns(plant)
    # No station is emptied for the first time later than its step says: none of these is below 0.
    times = [(days - first) // step + 1 for first, step in zip(firsts, steps)]
    return tuple([turn_box(plant, stock, station, many) for station, many in enumerate(times)])


def turn_sold_on(plant, stock, day):
    """Returns the box that is sold on a day."""
    check_plant(plant)
    check_stock(plant, stock)
    check_days(day, 1, FARTHEST_DAY)
    return turn_box(plant, stock, 0, day - 1)


def mean_time(plant):
    """Returns the mean number of days from the making of a box to its sale, as (top, bottom)."""
    check_plant(plant)
    # The makers share the days, and a box waits at each station until it is emptied
    # again: whatever the plant, each station adds one day to the mean.
    return len(plant) + 1, 1


def all_turns(plant):
    """Returns for each station the first day on which it is emptied, and every how many days it is."""
    givers = supplier_lists(plant)
    firsts = [1]
    steps = [1]
    # A customer has a smaller number than its suppliers: its days are known before theirs.
    for supplier, station in enumerate(plant, 1):
        firsts.append(firsts[station] + steps[station] * givers[station].index(supplier))
        steps.append(steps[station] * len(givers[station]))
    return firsts, steps


def turn_box(plant, stock, station, many):
    """Returns the box at a station after it was emptied so many times."""
    givers = supplier_lists(plant)
    # The box came from the supplier whose turn it was, and which had been emptied once
    # in each full round before.
    while many > 0 and givers[station]:
        many, place = divmod(many - 1, len(givers[station]))
        station = givers[station][place]
    if many == 0:
        return stock[station]
    firsts, steps = all_turns(plant)
    return max(stock) + firsts[station] + steps[station] * (many - 1)
