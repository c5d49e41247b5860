"""Back in time: the patterns and stocks that lead to a pattern or to given sales."""

from pulltree.checks import FARTHEST_DAY, check_days, check_few_stations, check_pattern, check_plant, check_stock
from pulltree.counting import ordered_patterns
from pulltree.ordering import check_ordered
from pulltree.plants import path_up
from pulltree.sales import sales_of_first
from pulltree.words import ranks_by_words, turned_words, words_by_age

MOST_DAYS_BACK = 60

MOST_STATIONS_BACK = 6

MOST_STATIONS_SOLD = 7


def has_day_before(plant, pattern):
    """Tells whether some pattern is one day before a pattern."""
    check_plant(plant)
    check_pattern(plant, pattern)
    return last_chain(plant, pattern) is not None


def patterns_before(plant, pattern):
    """Returns all patterns one day before a pattern, as an ascending list."""
    check_plant(plant)
    check_pattern(plant, pattern)
    return earlier_patterns(plant, pattern)


def ordered_before(plant, pattern, days):
    """Returns the ordered pattern that leads to an ordered pattern after this number of days."""
    check_plant(plant)
    check_pattern(plant, pattern)
    check_days(days, 0, FARTHEST_DAY)
    check_ordered(plant, pattern)
    # Back in time the last letter of a word moves to its front: the words read from
    # behind turn as words do from day to day.
    words = [letters[::-1] for letters in words_by_age(plant, pattern)]
    return ranks_by_words([letters[::-1] for letters in turned_words(plant, words, days)])


def count_before(plant, pattern, days):
    """Returns the number of patterns that lead to a pattern after this number of days."""
    check_plant(plant)
    check_pattern(plant, pattern)
    check_days(days, 0, MOST_DAYS_BACK)
    check_few_stations(plant, MOST_STATIONS_BACK)
    # No pattern leads to two others, so none is found twice.
    found = [pattern]
    for day in range(days):
        found = [earlier for later in found for earlier in earlier_patterns(plant, later)]
    return len(found)


def stocks_with_sales(plant, boxes):
    """Returns all stocks whose first sales are these boxes in this order, as an ascending list."""
    check_plant(plant)
    check_stock(plant, boxes)
    check_few_stations(plant, MOST_STATIONS_SOLD)
    # Every station is sold out after its customer, as the days of an ordered pattern tell.
    stocks = [tuple([boxes[rank] for rank in ranks]) for ranks in ordered_patterns(plant)]
    return sorted([stock for stock in stocks if sales_of_first(plant, stock) == list(boxes)])


def last_chain(plant, ranks):
    """Returns the chain of the day that led to a pattern, from the maker to the shop, or None if none did."""
    newest = ranks.index(len(plant))
    if newest in plant:
        return None
    chain = path_up(plant, newest)
    # The box that a station took was older than those of its other suppliers, which
    # still hold them.
    for supplier, station in enumerate(plant, 1):
        if station in chain and supplier not in chain and ranks[supplier] < ranks[station]:
            return None
    return chain


def earlier_patterns(plant, ranks):
    """Returns all patterns one day before a checked pattern, as an ascending list."""
    chain = last_chain(plant, ranks)
    if chain is None:
        return []
    boxes = list(ranks)
    for supplier, station in zip(chain, chain[1:]):
        boxes[supplier] = ranks[station]
    return [with_sold(boxes, sold) for sold in range(len(boxes))]


def with_sold(boxes, sold):
    """Returns the pattern of these boxes when the shop holds one with this rank instead of its own."""
    return tuple([sold] + [box if box < sold else box + 1 for box in boxes[1:]])
