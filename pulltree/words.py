"""Words: the orders in which the stations of an ordered stock use their suppliers."""

from pulltree.checks import FARTHEST_DAY, check_days, check_plant, check_station, check_stock, is_integer
from pulltree.errors import NoWords
from pulltree.ordering import check_ordered
from pulltree.plants import all_sizes


def word(plant, stock, station):
    """Returns the word of a station of an ordered stock."""
    check_plant(plant)
    check_stock(plant, stock)
    check_station(plant, station)
    check_ordered(plant, stock)
    return words_by_age(plant, stock)[station]


def words_of(plant, stock):
    """Returns the words of all stations of an ordered stock."""
    check_plant(plant)
    check_stock(plant, stock)
    check_ordered(plant, stock)
    return words_by_age(plant, stock)


def is_words(plant, value):
    """Tells whether a value is words of the plant. Accepts any value."""
    check_plant(plant)
    return fits_words(plant, value)


def pattern_of_words(plant, words):
    """Returns the ordered pattern with these words."""
    check_plant(plant)
    check_words(plant, words)
    return ranks_by_words(words)


def words_after(plant, words, days):
    """Returns the words after this number of days."""
    check_plant(plant)
    check_words(plant, words)
    check_days(days, 0, FARTHEST_DAY)
    return turned_words(plant, words, days)


def words_by_age(plant, stock):
    """Returns the words of a checked and ordered stock."""
    words = [[] for box in stock]
    for holder in sorted(range(len(stock)), key=lambda station: stock[station]):
        supplier = holder
        while supplier != 0:
            above = plant[supplier - 1]
            words[above].append(supplier)
            supplier = above
    return words


def fits_words(plant, value):
    """Tells whether a value is words of a plant that is already checked."""
    if not isinstance(value, list) or len(value) != len(plant) + 1:
        return False
    return all([has_letters(item, letters) for item, letters in zip(value, sorted_letters(plant))])


def has_letters(value, letters):
    """Tells whether a value is a list of these sorted letters in any order."""
    if not isinstance(value, list) or len(value) != len(letters):
        return False
    # Other kinds of values are ruled out first: they need not be sortable.
    return all([is_integer(letter) for letter in value]) and sorted(value) == letters


def sorted_letters(plant):
    """Returns for each station the letters of its word, in ascending order."""
    sizes = all_sizes(plant)
    rows = [[] for station in sizes]
    for supplier, station in enumerate(plant, 1):
        rows[station] += [supplier] * sizes[supplier]
    return rows


def check_words(plant, words):
    """Raises NoWords unless the value is words of the plant."""
    if not fits_words(plant, words):
        raise NoWords("these are not words of the plant")


def ranks_by_words(words):
    """Returns the ordered pattern with these checked words."""
    ranks = [None] * len(words)
    used = [0] * len(words)
    for rank in range(len(words)):
        station = 0
        # The oldest box at and below a station is its own; the letters of its
        # word tell, one after the other, where the next ones are.
        while ranks[station] is not None:
            supplier = words[station][used[station]]
            used[station] += 1
            station = supplier
        ranks[station] = rank
    return tuple(ranks)


def turned_words(plant, words, days):
    """Returns the checked words after any number of days."""
    return [turned(letters, many) for letters, many in zip(words, emptied_by_words(plant, words, days))]


def turned(letters, many):
    """Returns the letters after the first one has moved to the end so many times."""
    if not letters:
        return []
    first = many % len(letters)
    return letters[first:] + letters[:first]


def emptied_by_words(plant, words, days):
    """Returns for each station how often it is emptied on so many days from these words on."""
    times = [days]
    # A customer has a smaller number than its suppliers: its times are known before theirs.
    for supplier, station in enumerate(plant, 1):
        times.append(times_given(words[station], supplier, times[station]))
    return times


def times_given(letters, supplier, many):
    """Returns how often the supplier is emptied when the station with this word is emptied so many times."""
    rounds, rest = divmod(many, len(letters))
    return rounds * letters.count(supplier) + letters[:rest].count(supplier)
