"""A plain model of plants and days, written without the package, and sample values."""

import functools
import itertools
import random


def integer(value):
    return isinstance(value, int) and value is not True and value is not False


def plant_by_definition(value):
    if not isinstance(value, tuple) or len(value) > 39:
        return False
    for index in range(len(value)):
        if not integer(value[index]) or value[index] not in range(index + 1):
            return False
    return True


def stock_by_definition(plant, value):
    if not isinstance(value, tuple) or len(value) != len(plant) + 1:
        return False
    for index in range(len(value)):
        if not integer(value[index]) or value[index] in value[:index]:
            return False
    return True


def stations(plant):
    return list(range(len(plant) + 1))


def customer_of(plant, station):
    return dict(enumerate(plant, start=1)).get(station)


@functools.lru_cache(maxsize=None)
def supplier_table(plant):
    return tuple(tuple(other for other in stations(plant) if customer_of(plant, other) == station)
                 for station in stations(plant))


def suppliers_of(plant, station):
    return list(supplier_table(plant)[station])


def stations_below(plant, station):
    found = []
    for other in suppliers_of(plant, station):
        found += [other] + stations_below(plant, other)
    return found


def walk_to_shop(plant, station):
    if station == 0:
        return [0]
    return [station] + walk_to_shop(plant, customer_of(plant, station))


def simulate_day(plant, stock, first=0):
    """Pulls the boxes up one by one, from the first station of the chain on: (sold, chain, later)."""
    held = dict(zip(stations(plant), stock))
    newest = sorted(stock)[-1]
    chain = [first]
    sold = held.pop(first)
    while suppliers_of(plant, chain[-1]):
        offers = {held[other]: other for other in suppliers_of(plant, chain[-1])}
        box = sorted(offers)[0]
        held[chain[-1]] = held.pop(offers[box])
        chain.append(offers[box])
    held[chain[-1]] = newest + 1
    return sold, chain, tuple(held[station] for station in stations(plant))


def simulate(plant, stock, days):
    """The rows (sold, chain) of the days, and the stock after them."""
    rows = []
    for _ in range(days):
        sold, chain, stock = simulate_day(plant, stock)
        rows.append((sold, tuple(chain)))
    return rows, stock


def simulated_stocks(plant, stock, days):
    """The stocks after 0 to so many days."""
    stocks = [stock]
    for _ in range(days):
        stocks.append(simulate_day(plant, stocks[-1])[2])
    return stocks


def simulate_turns(plant, stock, days):
    """The same rows under the rule in turn, with a marker at each station, and all stocks from the first one on."""
    markers = {station: 0 for station in stations(plant)}
    rows = []
    stocks = [stock]
    for _ in range(days):
        boxes = list(stocks[-1])
        chain = [0]
        while suppliers_of(plant, chain[-1]):
            station = chain[-1]
            giver = suppliers_of(plant, station)[markers[station]]
            markers[station] = (markers[station] + 1) % len(suppliers_of(plant, station))
            boxes[station] = boxes[giver]
            chain.append(giver)
        boxes[chain[-1]] = max(stocks[-1]) + 1
        rows.append((stocks[-1][0], tuple(chain)))
        stocks.append(tuple(boxes))
    return rows, stocks


def ranks_by_definition(stock):
    return tuple(sorted(stock).index(box) for box in stock)


def stays_in(stocks):
    """For each box the stations at which it stays, with the days on which it comes there."""
    stays = {}
    for day, stock in enumerate(stocks):
        for station, box in enumerate(stock):
            rows = stays.setdefault(box, [])
            if not rows or rows[-1][0] != station:
                rows.append((station, day))
    return stays


def disorders_of(plant, stock):
    """All disorders (upper, lower), by their definition."""
    return [(upper, lower) for upper in stations(plant) for lower in stations_below(plant, upper)
            if stock[lower] < stock[upper]]


def ordered_by_definition(plant, stock):
    return not disorders_of(plant, stock)


def ordered_patterns_by_definition(plant):
    return [ranks for ranks in all_patterns(plant) if ordered_by_definition(plant, ranks)]


def first_ordered_by_definition(plant, stock):
    while not ordered_by_definition(plant, stock):
        stock = simulate_day(plant, stock)[2]
    return stock


def cycle_by_definition(plant, stock):
    """The patterns from that of the first ordered stock on until it comes again."""
    stock = first_ordered_by_definition(plant, stock)
    patterns = []
    while ranks_by_definition(stock) not in patterns[:1]:
        patterns.append(ranks_by_definition(stock))
        stock = simulate_day(plant, stock)[2]
    return patterns


def word_by_definition(plant, stock, station):
    """The word of a station, box by box."""
    holder = {stock[other]: other for other in stations_below(plant, station)}
    return [supplier for box in sorted(holder) for supplier in suppliers_of(plant, station)
            if holder[box] in [supplier] + stations_below(plant, supplier)]


def words_by_definition(plant, stock):
    return [word_by_definition(plant, stock, station) for station in stations(plant)]


def letters_by_definition(plant, station):
    return [supplier for supplier in suppliers_of(plant, station)
            for _ in [supplier] + stations_below(plant, supplier)]


def chain_plant(count):
    return tuple(range(count - 1))


def star_plant(count):
    return (0,) * (count - 1)


def any_plant(count, seed):
    source = random.Random(seed)
    return tuple(source.randint(0, index) for index in range(count - 1))


def any_stock(plant, seed):
    """A stock of scattered numbers, negative and very great ones among them."""
    source = random.Random(seed)
    reach = source.choice([30, 1000, 10 ** 12, 10 ** 40])
    boxes = set()
    while len(boxes) < len(plant) + 1:
        boxes.add(source.randint(-reach, reach))
    boxes = sorted(boxes)
    source.shuffle(boxes)
    return tuple(boxes)


def ordered_stock(plant, seed):
    """An ordered stock of such numbers: one after the other of the stations that have none gets one."""
    source = random.Random(seed)
    placed = {}
    free = [0]
    for box in sorted(any_stock(plant, seed)):
        station = free.pop(source.randrange(len(free)))
        placed[station] = box
        free += suppliers_of(plant, station)
    return tuple(placed[station] for station in stations(plant))


def any_words(plant, seed):
    source = random.Random(seed)
    words = [letters_by_definition(plant, station) for station in stations(plant)]
    for letters in words:
        source.shuffle(letters)
    return words


def all_words(plant):
    rows = [sorted(set(itertools.permutations(letters_by_definition(plant, station)))) for station in stations(plant)]
    return [[list(letters) for letters in chosen] for chosen in itertools.product(*rows)]


def all_plants(count):
    return list(itertools.product(*[range(index + 1) for index in range(count - 1)]))


def all_patterns(plant):
    return list(itertools.permutations(range(len(plant) + 1)))


def sample_plants(others=3):
    """Chains, stars and other trees of 1 to 40 stations."""
    plants = []
    for count in range(1, 41):
        plants += [chain_plant(count), star_plant(count)]
        plants += [any_plant(count, 100 * count + turn) for turn in range(others)]
    return plants
