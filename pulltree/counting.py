"""Counting: the ordered patterns of a plant and their numbers."""

from pulltree.checks import check_few_stations, check_plant, check_stock, is_within
from pulltree.cycles import length_of_cycle
from pulltree.errors import NoNumber
from pulltree.ordering import check_ordered
from pulltree.plants import all_sizes
from pulltree.stocks import ranks_of

MOST_STATIONS_TRIED = 7


def count_ordered(plant):
    """Returns the number of ordered patterns."""
    check_plant(plant)
    return count_all(plant)


def nth_ordered(plant, number):
    """Returns the ordered pattern with this number."""
    check_plant(plant)
    if not is_within(number, 0, count_all(plant) - 1):
        raise NoNumber("no ordered pattern has this number")
    ranks = [0]
    while len(ranks) <= len(plant):
        rank, number = next_rank(plant, ranks, number)
        ranks.append(rank)
    return tuple(ranks)


def ordered_number(plant, stock):
    """Returns the number of the pattern of an ordered stock."""
    check_plant(plant)
    check_stock(plant, stock)
    check_ordered(plant, stock)
    ranks = ranks_of(stock)
    number = 0
    for station in range(1, len(ranks)):
        first = list(ranks[:station])
        smaller = [rank for rank in next_ranks(plant, first) if rank < ranks[station]]
        number += sum([count_beginning(plant, first + [rank]) for rank in smaller])
    return number


def longest_cycle(plant):
    """Returns the greatest cycle length of all ordered patterns."""
    check_plant(plant)
    check_few_stations(plant, MOST_STATIONS_TRIED)
    return max([length_of_cycle(plant, ranks) for ranks in ordered_patterns(plant)])


def count_all(plant):
    """Returns the number of ordered patterns of a checked plant."""
    # The shop holds the oldest box of all.
    return count_beginning(plant, [0])


def count_beginning(plant, ranks):
    """Returns the number of ordered patterns that begin with these ranks of an ordered one."""
    sizes = all_sizes(plant)
    below = [0] * len(ranks)
    count = divisor = 1
    for supplier, station in enumerate(plant, 1):
        if supplier >= len(ranks):
            divisor *= sizes[supplier]
            if station < len(ranks):
                below[station] += sizes[supplier]
    # From the newest box down: the stations below one that has a rank take any of the
    # newer places that are free; the sizes tell how many of these choices are ordered.
    holders = {rank: station for station, rank in enumerate(ranks)}
    free = 0
    for rank in range(len(plant), -1, -1):
        if rank not in holders:
            free += 1
            continue
        for place in range(below[holders[rank]]):
            count *= free
            free -= 1
    return count // divisor


def next_ranks(plant, ranks):
    """Returns the ranks that the next station may have behind these ones, ascending."""
    least = ranks[plant[len(ranks) - 1]] + 1
    return [rank for rank in range(least, len(plant) + 1) if rank not in ranks]


def next_rank(plant, ranks, number):
    """Returns the rank behind these ones in the pattern with this number among those that begin
    with them, and its number among those that begin with the further rank, too."""
    for rank in next_ranks(plant, ranks):
        many = count_beginning(plant, ranks + [rank])
        if number < many:
            break
        number -= many
    return rank, number


def ordered_patterns(plant):
    """Returns all ordered patterns of a checked plant, in any order."""
    # Each order of the boxes by age grows station by station: the box of a further
    # station may stand anywhere behind that of its customer.
    orders = [[0]]
    for supplier, station in enumerate(plant, 1):
        orders = [order[:at] + [supplier] + order[at:]
                  for order in orders for at in range(order.index(station) + 1, supplier + 1)]
    # The rank of a station is its place in the order.
    return [tuple([order.index(holder) for holder in range(len(order))]) for order in orders]
