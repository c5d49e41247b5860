"""Checks of arguments, shared by the modules of the package."""

from pulltree.errors import NoDays, NoPattern, NoPlant, NoStation, NoStock, TooMany

MOST_STATIONS = 40

FARTHEST_DAY = 10 ** 30


def is_integer(value):
    """Tells whether a value is an integer; True and False are none."""
    return isinstance(value, int) and not isinstance(value, bool)


def is_within(value, least, most):
    """Tells whether a value is an integer from least to most."""
    return is_integer(value) and least <= value <= most


def is_decimal(text, most):
    """Tells whether a string is a number of 1 to so many digits without leading zeros."""
    if not text.isascii() or not text.isdigit() or len(text) > most:
        return False
    return text == "0" or not text.startswith("0")


def fits_plant(value):
    """Tells whether a value is a plant."""
    if not isinstance(value, tuple) or len(value) >= MOST_STATIONS:
        return False
    # Most functions of the package begin with this loop. It asks what is_within
    # asks, but calls for each station would take most of the time.
    greatest = 0
    for above in value:
        if not isinstance(above, int) or above is True or above is False or above < 0 or above > greatest:
            return False
        greatest += 1
    return True


def fits_station(plant, value):
    """Tells whether a value is a station of a plant that is already checked."""
    return is_integer(value) and 0 <= value <= len(plant)


def fits_stock(plant, value):
    """Tells whether a value is a stock of a plant that is already checked."""
    if not isinstance(value, tuple) or len(value) != len(plant) + 1:
        return False
    # Other kinds of values are ruled out first: a set takes no lists.
    if not all([is_integer(box) for box in value]):
        return False
    return len(set(value)) == len(value)


def fits_pattern(plant, value):
    """Tells whether a value is a pattern of a plant that is already checked."""
    return fits_stock(plant, value) and sorted(value) == list(range(len(value)))


def check_plant(plant):
    """Raises NoPlant unless the value is a plant."""
    if not fits_plant(plant):
        raise NoPlant("this is not a plant")


def check_station(plant, station):
    """Raises NoStation unless the value is a station of the plant."""
    if not fits_station(plant, station):
        raise NoStation("this is not a station of the plant")


def check_supplier(plant, station, supplier):
    """Raises NoStation unless the value is a supplier of the checked station."""
    check_station(plant, supplier)
    if supplier == 0 or plant[supplier - 1] != station:
        raise NoStation("this is not a supplier of the station")


def check_maker(plant, maker):
    """Raises NoStation unless the value is a maker of the plant."""
    check_station(plant, maker)
    if maker in plant:
        raise NoStation("this station has suppliers")


def check_stock(plant, stock):
    """Raises NoStock unless the value is a stock of the plant."""
    if not fits_stock(plant, stock):
        raise NoStock("this is not a stock of the plant")


def check_pattern(plant, ranks):
    """Raises NoPattern unless the value is a pattern of the plant."""
    if not fits_pattern(plant, ranks):
        raise NoPattern("this is not a pattern of the plant")


def check_few_stations(plant, most):
    """Raises TooMany if the checked plant has more stations than this."""
    if len(plant) >= most:
        raise TooMany(len(plant) + 1)


def check_days(days, least, most):
    """Raises NoDays unless the value is an integer from least to most."""
    if not is_within(days, least, most):
        raise NoDays("this is not such a number of days")
