"""The functions of plants against what they once did: two calls for each station tell whether a plant is one."""

import timeit
import unittest

from pulltree.plants import (all_sizes, customer, is_plant, makers, path_to_shop, size, supplier_lists, suppliers)
from simulation import any_plant, chain_plant, star_plant, stations

# Half of the earlier time is asked for, and 0.35 to 0.5 of it was measured. The limit leaves room for other machines.
MOST_OF_EARLIER_TIME = 0.75


def integer(value):
    return isinstance(value, int) and not isinstance(value, bool)


def within(value, least, most):
    return integer(value) and least <= value <= most


def earlier_is_plant(value):
    if not isinstance(value, tuple) or len(value) > 39:
        return False
    return all([within(above, 0, at) for at, above in enumerate(value)])


def earlier_check(plant, station):
    assert earlier_is_plant(plant)
    assert within(station, 0, len(plant))


def earlier_customer(plant, station):
    earlier_check(plant, station)
    return None if station == 0 else plant[station - 1]


def earlier_suppliers(plant, station):
    earlier_check(plant, station)
    return supplier_lists(plant)[station]


def earlier_makers(plant):
    earlier_check(plant, 0)
    return [station for station, givers in enumerate(supplier_lists(plant)) if not givers]


def earlier_size(plant, station):
    earlier_check(plant, station)
    return all_sizes(plant)[station]


def earlier_path_to_shop(plant, station):
    earlier_check(plant, station)
    path = [station]
    while path[-1] != 0:
        path.append(plant[path[-1] - 1])
    return path


OF_PLANT = [(is_plant, earlier_is_plant), (makers, earlier_makers)]
OF_STATION = [(customer, earlier_customer), (suppliers, earlier_suppliers), (size, earlier_size),
              (path_to_shop, earlier_path_to_shop)]


def seconds(call):
    return timeit.timeit(call, number=300)


def share_of_earlier_time(now, earlier):
    """Of the best of some rounds each; tried again when the machine was busy with something else."""
    shares = []
    while len(shares) < 8 and (not shares or shares[-1] > MOST_OF_EARLIER_TIME):
        rounds = [(seconds(now), seconds(earlier)) for _ in range(12)]
        shares.append(min(new for new, old in rounds) / min(old for new, old in rounds))
    return shares[-1]


class SpeedTest(unittest.TestCase):
    def check_pair(self, pair, *arguments):
        now, earlier = pair
        self.assertEqual(now(*arguments), earlier(*arguments))
        found = share_of_earlier_time(lambda: now(*arguments), lambda: earlier(*arguments))
        self.assertLessEqual(found, MOST_OF_EARLIER_TIME, (now.__name__, arguments))

    def test_chain_of_forty_stations(self):
        plant = chain_plant(40)
        for pair in OF_PLANT:
            self.check_pair(pair, plant)
        for pair, station in zip(OF_STATION, [39, 0, 0, 39]):
            self.check_pair(pair, plant, station)

    def test_other_plants_of_forty_stations(self):
        for plant in [star_plant(40), any_plant(40, 1)]:
            for pair in OF_PLANT:
                self.check_pair(pair, plant)
            for pair in OF_STATION:
                for station in [0, 1, 39]:
                    self.check_pair(pair, plant, station)

    def test_all_stations_of_a_chain_together(self):
        plant = chain_plant(40)
        for now, earlier in OF_STATION:
            found = share_of_earlier_time(lambda: [now(plant, station) for station in stations(plant)],
                                          lambda: [earlier(plant, station) for station in stations(plant)])
            self.assertLessEqual(found, MOST_OF_EARLIER_TIME, now.__name__)


if __name__ == "__main__":
    unittest.main()
