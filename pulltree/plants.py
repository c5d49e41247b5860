"""Plants: trees of stations."""

from pulltree.checks import check_plant, check_station, fits_plant


def is_plant(value):
    """Tells whether a value is a plant. Accepts any value."""
    return fits_plant(value)


def customer(plant, station):
    """Returns the customer of a station, or None for station 0."""
    check_plant(plant)
    check_station(plant, station)
    if station == 0:
        return None
    return plant[station - 1]


def suppliers(plant, station):
    """Returns the suppliers of a station as an ascending list."""
    check_plant(plant)
    check_station(plant, station)
    # No supplier has a smaller number than its customer, so the search begins behind it.
    return [at for at, above in enumerate(plant[station:], station + 1) if above == station]


def makers(plant):
    """Returns all makers as an ascending list."""
    check_plant(plant)
    customers = set(plant)
    return [station for station in range(len(plant) + 1) if station not in customers]


def size(plant, station):
    """Returns the number of the stations at and below a station."""
    check_plant(plant)
    check_station(plant, station)
    # A customer has a smaller number than its suppliers: whether it is counted
    # is told before theirs is.
    counted = [False] * station + [True]
    for above in plant[station:]:
        counted.append(counted[above])
    return counted.count(True)


def path_to_shop(plant, station):
    """Returns the stations from a station to station 0, both included."""
    check_plant(plant)
    check_station(plant, station)
    return path_up(plant, station)


def path_up(plant, station):
    """Returns the stations from a station of a checked plant to station 0."""
    customers = (None,) + plant
    path = []
    while station is not None:
        path.append(station)
        station = customers[station]
    return path


def supplier_lists(plant):
    """Returns for each station of a checked plant the list of its suppliers."""
    lists = [[] for station in range(len(plant) + 1)]
    for at, above in enumerate(plant):
        lists[above].append(at + 1)
    return lists


def all_sizes(plant):
    """Returns the sizes of all stations of a checked plant."""
    sizes = [1] * (len(plant) + 1)
    # A customer has a smaller number than its suppliers: from the greatest
    # station down, each size is complete before it is added to another one.
    for station in range(len(plant), 0, -1):
        sizes[plant[station - 1]] += sizes[station]
    return sizes
