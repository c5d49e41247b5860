"""Tests of near days, for functions that give other answers on each day."""

from simulation import all_patterns, all_plants, any_plant, any_stock, chain_plant, ordered_stock, sample_plants


class NearDays:
    """For a test case with check_near_days(plant, stock, days, step); a step above 1 may leave some answers out."""

    def test_every_small_stock(self):
        for count in range(1, 5):
            for plant in all_plants(count):
                for stock in all_patterns(plant):
                    self.check_near_days(plant, stock, 3 * count + 2, 1)

    def test_plants_of_all_sizes(self):
        for seed, plant in enumerate(sample_plants(1)):
            self.check_near_days(plant, any_stock(plant, seed), 2 * len(plant) + 3, 1 if len(plant) < 12 else 7)

    def test_every_station_of_forty(self):
        plant = any_plant(40, 2)
        self.check_near_days(plant, any_stock(plant, 2), 60, 1)

    def test_reversed_chain(self):
        self.check_near_days(chain_plant(12), tuple(range(12, 0, -1)), 30, 1)

    def test_ordered_stocks(self):
        for seed, plant in enumerate(sample_plants(1)):
            self.check_near_days(plant, ordered_stock(plant, seed), min(20, len(plant) + 5), 7)
