"""Plants: trees of stations."""

from pulltree.checks import check_plant, check_station, fits_plant


def is_plant(value):
    """Tells whether a value is a plant. Accepts any value."""
    return fits_plant(value)


def customer(plant, station):
    """Returns the customer of a station, or None for station 0."""
    check_plant(plant)
    check_station(plant, station)
    if station == 0:
        return None
    return plant[station - 1]


def suppliers(plant, station):
    """Returns the suppliers of a station as an ascending list."""
    check_plant(plant)
    check_station(plant, station)
    return supplier_lists(plant)[station]


def makers(plant):
    """Returns all makers as an ascending list."""
    check_plant(plant)
    return [station for station, givers in enumerate(supplier_lists(plant)) if not givers]


def size(plant, station):
    """Returns the number of the stations at and below a station."""
    check_plant(plant)
    check_station(plant, station)
    return all_sizes(plant)[station]


def path_to_shop(plant, station):
    """Returns the stations from a station to station 0, both included."""
    check_plant(plant)
    check_station(plant, station)
    path = [station]
    while path[-1] != 0:
        path.append(plant[path[-1] - 1])
    return path


def supplier_lists(plant):
    """Returns for each station of a checked plant the list of its suppliers."""
    lists = [[] for station in range(len(plant) + 1)]
    for at, above in enumerate(plant):
        lists[above].append(at + 1)
    return lists


def all_sizes(plant):
    """Returns the sizes of all stations of a checked plant."""
    sizes = [1] * (len(plant) + 1)
    # A customer has a smaller number than its suppliers: from the greatest
    # station down, each size is complete before it is added to another one.
    for station in range(len(plant), 0, -1):
        sizes[plant[station - 1]] += sizes[station]
    return sizes
