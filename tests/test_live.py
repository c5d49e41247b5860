import random
import unittest

from pulltree.errors import Full, NoDays, NoPlant, NoStation, NoStock, Nothing, PlantError
from pulltree.far import stock_after
from pulltree.live import LivePlant
from pulltree.ordering import is_ordered
from refusals import RefusalCase
from simulation import (all_patterns, all_plants, any_plant, any_stock, chain_plant, ordered_by_definition,
                        ordered_patterns_by_definition, ordered_stock, sample_plants, simulate, simulate_day,
                        star_plant, stations)
from values import (GREATEST, NOT_FAR_DAYS, NOT_PLANTS, NOT_STATIONS, NOT_STOCKS, ORDERED, OTHER_KINDS, PLANT, STOCK,
                    WIDE)


class Model:
    """The operations by the document, on states that are all kept."""

    def __init__(self, plant, stock):
        self.states = [(plant, stock)]
        self.operations = []

    def perform(self, operation):
        """Returns the box that is sold, None if none is."""
        plant, stock = self.states[-1]
        sold = None
        if operation[0] == "day":
            sold, chain, stock = simulate_day(plant, stock)
        elif operation[0] == "sell":
            sold, chain, stock = simulate_day(plant, stock, operation[1])
        elif operation[0] == "days":
            near = operation[1] < 60
            stock = simulate(plant, stock, operation[1])[1] if near else stock_after(plant, stock, operation[1])
        elif operation[0] == "add":
            plant, stock = plant + (operation[1],), stock + (max(stock) + 1,)
        elif operation[0] == "remove":
            plant, stock = plant[:-1], stock[:-1]
        self.states.append((plant, stock))
        self.operations.append(operation)
        return sold

    def undo(self):
        self.states.pop()
        self.operations.pop()


def perform(live, operation):
    return getattr(live, operation[0])(*operation[1:])


def state(live):
    return live.plant(), live.stock(), len(live), live.log()


def any_operation(source, count):
    """An operation that a live plant with so many stations allows."""
    choices = [("day",), ("sell", source.randrange(count)),
               ("days", source.choice([1, 2, 7, 40, 10 ** 20, GREATEST, source.randint(1, 50)]))]
    if count < 40:
        choices.append(("add", source.randrange(count)))
    if count > 1:
        choices.append(("remove",))
    return source.choice(choices)


class ExamplesTest(unittest.TestCase):
    def test_creation(self):
        live = LivePlant(PLANT, stock=STOCK)
        self.assertEqual((live.plant(), live.stock(), len(live)), ((0, 0, 2), (4, 3, 2, 1), 4))
        self.assertEqual(LivePlant(PLANT).stock(), (0, 1, 2, 3))

    def test_day_and_days(self):
        live = LivePlant(PLANT, stock=STOCK)
        self.assertEqual([live.day(), live.day(), live.stock()], [4, 2, (1, 3, 5, 6)])
        live = LivePlant(PLANT, stock=STOCK)
        self.assertIsNone(live.days(10 ** 9))
        self.assertEqual(live.stock(), (1000000001, 1000000003, 1000000002, 1000000004))

    def test_sell_add_and_remove(self):
        live = LivePlant(PLANT, stock=ORDERED)
        self.assertEqual([live.sell(2), live.stock()], [5, (1, 3, 6, 7)])
        live = LivePlant(PLANT, stock=ORDERED)
        self.assertIsNone(live.add(1))
        self.assertEqual((live.plant(), live.stock()), ((0, 0, 2, 1), (1, 3, 5, 6, 7)))
        live = LivePlant(PLANT, stock=ORDERED)
        self.assertIsNone(live.remove())
        self.assertEqual((live.plant(), live.stock()), ((0, 0), (1, 3, 5)))

    def test_undo_and_log(self):
        live = LivePlant(PLANT)
        sold = live.day()
        self.assertIsNone(live.undo())
        self.assertEqual((sold, live.stock()), (0, (0, 1, 2, 3)))
        live = LivePlant(PLANT)
        self.assertEqual(live.log(), [])
        live.sell(1)
        live.remove()
        self.assertEqual(live.log(), [("sell", 1), ("remove",)])

    def test_equality(self):
        self.assertIs(LivePlant(PLANT) == LivePlant(PLANT, stock=(0, 1, 2, 3)), True)

    def test_plant_of_one_station(self):
        live = LivePlant(())
        self.assertEqual(state(live), ((), (0,), 1, []))
        self.assertEqual([live.day(), live.sell(0), live.stock()], [0, 1, (2,)])
        live.days(GREATEST)
        self.assertEqual(live.stock(), (GREATEST + 2,))
        live.add(0)
        self.assertEqual((live.plant(), live.stock()), ((0,), (GREATEST + 2, GREATEST + 3)))
        live.remove()
        self.assertEqual((live.plant(), live.stock()), ((), (GREATEST + 2,)))
        with self.assertRaises(NoStation):
            live.remove()


class OperationsTest(unittest.TestCase):
    def test_every_operation_on_every_small_stock(self):
        for count in range(1, 5):
            for plant in all_plants(count):
                for stock in all_patterns(plant):
                    operations = [("day",), ("days", 1), ("days", 5)]
                    operations += [("sell", station) for station in stations(plant)]
                    operations += [("add", station) for station in stations(plant)]
                    operations += [("remove",)] if plant else []
                    for operation in operations:
                        self.check_operation(plant, stock, operation)

    def check_operation(self, plant, stock, operation):
        live = LivePlant(plant, stock=stock)
        model = Model(plant, stock)
        self.assertEqual(perform(live, operation), model.perform(operation))
        self.assertEqual((live.plant(), live.stock()), model.states[-1])
        self.assertEqual(len(live), len(live.stock()))
        self.assertEqual(live.log(), [operation])
        live.undo()
        self.assertEqual(state(live), (plant, stock, len(stock), []))

    def test_sell_at_each_station(self):
        for seed, plant in enumerate(sample_plants(1)):
            stock = any_stock(plant, seed)
            for station in stations(plant):
                live = LivePlant(plant, stock=stock)
                sold, chain, later = simulate_day(plant, stock, station)
                self.assertEqual(live.sell(station), sold)
                self.assertEqual(sold, stock[station])
                self.assertEqual(live.stock(), later)

    def test_an_ordered_stock_stays_ordered(self):
        for plant in [plant for count in range(1, 6) for plant in all_plants(count)]:
            for stock in ordered_patterns_by_definition(plant):
                for station in stations(plant):
                    live = LivePlant(plant, stock=stock)
                    live.sell(station)
                    self.assertIs(ordered_by_definition(plant, live.stock()), True)
        for seed, plant in enumerate(sample_plants(1)):
            live = LivePlant(plant, stock=ordered_stock(plant, seed))
            for operation in [("sell", len(plant)), ("day",), ("sell", len(plant) // 2), ("days", 10 ** 9)]:
                perform(live, operation)
                self.assertIs(is_ordered(plant, live.stock()), True)
            if len(plant) < 39:
                live.add(len(plant) // 3)
                self.assertIs(is_ordered(live.plant(), live.stock()), True)

    def test_sell_station_0_is_a_day_with_another_name(self):
        for seed, plant in enumerate(sample_plants(1)):
            stock = any_stock(plant, seed)
            one, other = LivePlant(plant, stock=stock), LivePlant(plant, stock=stock)
            for _ in range(5):
                self.assertEqual(one.day(), other.sell(0))
                self.assertEqual(one, other)
            self.assertEqual([one.log(), other.log()], [[("day",)] * 5, [("sell", 0)] * 5])

    def test_days_together_are_the_days_one_by_one(self):
        for seed, plant in enumerate(sample_plants(1)):
            stock = any_stock(plant, seed)
            one, other = LivePlant(plant, stock=stock), LivePlant(plant, stock=stock)
            for many in [1, 2, 3, len(plant) + 1, 45]:
                one.days(many)
                for _ in range(many):
                    other.day()
                self.assertEqual(one.stock(), other.stock())
            self.assertEqual(one.log(), [("days", many) for many in [1, 2, 3, len(plant) + 1, 45]])

    def test_the_next_number_is_1_more_than_the_greatest_that_is_left(self):
        live = LivePlant((0,), stock=(1, 900))
        live.remove()
        live.add(0)
        self.assertEqual(live.stock(), (1, 2))
        live.remove()
        self.assertEqual([live.day(), live.stock()], [1, (2,)])
        live = LivePlant((0, 0), stock=(7, 9, 8))
        live.sell(1)
        self.assertEqual(live.stock(), (7, 10, 8))

    def test_a_station_may_be_added_to_one_that_was_added(self):
        live = LivePlant(())
        for station in range(39):
            live.add(station)
        self.assertEqual(live.plant(), chain_plant(40))
        self.assertEqual(live.stock(), tuple(range(40)))
        for _ in range(39):
            live.remove()
        self.assertEqual((live.plant(), live.stock()), ((), (0,)))
        self.assertEqual(len(live.log()), 78)
        for _ in range(78):
            live.undo()
        self.assertEqual(state(live), ((), (0,), 1, []))


class SessionsTest(unittest.TestCase):
    def check_state(self, live, model):
        plant, stock = model.states[-1]
        self.assertEqual(state(live), (plant, stock, len(stock), model.operations))

    def check_session(self, plant, stock, seed, many):
        source = random.Random(seed)
        live = LivePlant(plant, stock=stock)
        model = Model(plant, stock)
        for _ in range(many):
            if model.operations and source.random() < 0.3:
                self.assertIsNone(live.undo())
                model.undo()
            else:
                operation = any_operation(source, len(live))
                self.assertEqual(perform(live, operation), model.perform(operation))
            self.check_state(live, model)
        while model.operations:
            live.undo()
            model.undo()
            self.check_state(live, model)
        with self.assertRaises(Nothing):
            live.undo()
        self.check_state(live, model)

    def test_sessions_of_small_plants(self):
        for count in range(1, 5):
            for seed, plant in enumerate(all_plants(count)):
                for turn in range(20):
                    self.check_session(plant, any_stock(plant, turn), 1000 * seed + turn, 25)

    def test_sessions_of_plants_of_all_sizes(self):
        for seed, plant in enumerate(sample_plants()):
            self.check_session(plant, any_stock(plant, seed), seed, 30)

    def test_two_hundred_operations(self):
        for seed, plant in enumerate([(), PLANT, any_plant(20, 1), star_plant(40), chain_plant(40), any_plant(40, 2)]):
            self.check_session(plant, any_stock(plant, seed), seed, 100)
            live = LivePlant(plant)
            for _ in range(200):
                live.day()
            self.assertEqual(live.log(), [("day",)] * 200)
            self.assertEqual(live.stock(), simulate(plant, tuple(stations(plant)), 200)[1])
            for _ in range(200):
                live.undo()
            self.assertEqual(live.stock(), tuple(stations(plant)))

    def test_two_live_plants_side_by_side(self):
        one, other = LivePlant(PLANT, stock=STOCK), LivePlant(PLANT, stock=STOCK)
        one.day()
        one.add(3)
        self.assertEqual(state(other), (PLANT, STOCK, 4, []))
        other.remove()
        one.undo()
        self.assertEqual(state(one), (PLANT, (2, 3, 1, 5), 4, [("day",)]))


class EqualityTest(unittest.TestCase):
    def check_pair(self, one, other, equal):
        for left, right in [(one, other), (other, one)]:
            self.assertIs(left == right, equal)
            self.assertIs(left != right, not equal)

    def test_plants_and_stocks_decide(self):
        for plant in all_plants(4):
            for stock in all_patterns(plant)[::5]:
                live = LivePlant(plant, stock=stock)
                for other_plant in all_plants(4):
                    for other_stock in all_patterns(plant)[::5]:
                        other = LivePlant(other_plant, stock=other_stock)
                        self.check_pair(live, other, (plant, stock) == (other_plant, other_stock))

    def test_plants_of_other_sizes(self):
        self.check_pair(LivePlant((0,)), LivePlant(()), False)
        self.check_pair(LivePlant((0, 0)), LivePlant((0, 1)), False)
        self.check_pair(LivePlant((0, 0)), LivePlant((0, 0), stock=(0, 2, 1)), False)

    def test_the_operations_do_not_count(self):
        one = LivePlant(PLANT, stock=STOCK)
        one.days(2)
        other = LivePlant(PLANT, stock=ORDERED)
        self.check_pair(one, other, True)
        other.add(0)
        self.check_pair(one, other, False)
        other.remove()
        self.check_pair(one, other, True)
        one.undo()
        self.check_pair(one, other, False)
        self.check_pair(one, one, True)

    def test_other_values(self):
        live = LivePlant((), stock=(0,))
        for value in OTHER_KINDS + [0, 1, PLANT, STOCK, ((), (0,)), [(), (0,)], ((), (0,), []), "shop 0\n", len(live),
                                    LivePlant, live.plant(), live.stock(), Model((), (0,))]:
            self.check_pair(live, value, False)


class KindsTest(unittest.TestCase):
    def test_kinds_of_results(self):
        live = LivePlant(PLANT, stock=STOCK)
        self.assertIs(type(live.day()), int)
        self.assertIs(type(live.sell(3)), int)
        for result in [live.days(GREATEST), live.add(0), live.remove(), live.undo()]:
            self.assertIsNone(result)
        self.assertIs(type(len(live)), int)
        for value in [live.plant(), live.stock()]:
            self.assertIs(type(value), tuple)
            self.assertEqual({type(item) for item in value}, {int})
        self.assertIs(type(live.log()), list)
        self.assertEqual({type(operation) for operation in live.log()}, {tuple})

    def test_a_log_that_is_changed_after_it_was_returned(self):
        live = LivePlant(PLANT, stock=STOCK)
        live.day()
        live.add(2)
        expected = [("day",), ("add", 2)]
        for change in [list.clear, list.reverse, list.pop, lambda log: log.append(("day",))]:
            log = live.log()
            self.assertEqual(log, expected)
            self.assertIsNot(log, live.log())
            change(log)
            self.assertEqual(live.log(), expected)
        live.undo()
        self.assertEqual(state(live), (PLANT, (2, 3, 1, 5), 4, [("day",)]))

    def test_an_older_log_does_not_change(self):
        live = LivePlant(PLANT, stock=STOCK)
        logs = [live.log()]
        for operation in [("day",), ("sell", 1), ("remove",)]:
            perform(live, operation)
            logs.append(live.log())
        live.undo()
        self.assertEqual([len(log) for log in logs], [0, 1, 2, 3])


class ErrorsTest(RefusalCase):
    def create(self, plant, stock):
        return LivePlant(plant, stock=stock)

    def test_creation(self):
        no_stocks = [value for value in NOT_STOCKS if value is not None]
        for stock in [STOCK, ORDERED, None]:
            self.check_refusals(self.create, (PLANT, stock), [(NoPlant, 0, NOT_PLANTS), (NoStock, 1, no_stocks)])
        for plant in NOT_PLANTS:
            self.check_refused(NoPlant, LivePlant, (plant,))

    def check_nothing_changed(self, live, error, name, *arguments):
        before = state(live)
        with self.assertRaises(PlantError) as caught:
            getattr(live, name)(*arguments)
        self.assertIs(type(caught.exception), error)
        self.assertEqual(state(live), before)

    def live_plants(self):
        """With and without operations that may be undone."""
        fresh = LivePlant(PLANT, stock=STOCK)
        used = LivePlant(PLANT + (1,), stock=STOCK + (0,))
        used.day()
        used.remove()
        return [fresh, used]

    def test_days(self):
        for live in self.live_plants():
            for value in NOT_FAR_DAYS:
                self.check_nothing_changed(live, NoDays, "days", value)
            for days in [1, GREATEST]:
                live.days(days)

    def test_stations(self):
        for live in self.live_plants():
            for value in NOT_STATIONS:
                self.check_nothing_changed(live, NoStation, "sell", value)
                self.check_nothing_changed(live, NoStation, "add", value)

    def test_least_and_greatest_stations(self):
        for seed, plant in enumerate(sample_plants(1)):
            live = LivePlant(plant, stock=any_stock(plant, seed))
            for station in [-1, len(plant) + 1, len(plant) + 2, 41, True, False]:
                self.check_nothing_changed(live, NoStation, "sell", station)
                self.check_nothing_changed(live, NoStation, "add", station)
            live.sell(len(plant))
            if len(plant) < 39:
                live.add(len(plant))
                live.sell(len(plant) + 1)

    def test_full(self):
        for plant in [star_plant(40), chain_plant(40), any_plant(40, 1)]:
            live = LivePlant(plant)
            for station in [0, 1, 20, 39]:
                self.check_nothing_changed(live, Full, "add", station)
            for station in OTHER_KINDS + [-1, 40, 41, 10 ** 36]:
                self.check_nothing_changed(live, NoStation, "add", station)
            live.remove()
            live.add(38)
            self.assertEqual(live.plant(), plant[:-1] + (38,))
            self.check_nothing_changed(live, Full, "add", 39)
            live.undo()
            live.add(0)
            self.assertEqual(len(live), 40)

    def test_remove_where_only_station_0_is_left(self):
        live = LivePlant((), stock=(5,))
        self.check_nothing_changed(live, NoStation, "remove")
        live.day()
        self.check_nothing_changed(live, NoStation, "remove")
        live.add(0)
        live.remove()
        self.check_nothing_changed(live, NoStation, "remove")

    def test_undo_where_nothing_is_left(self):
        live = LivePlant(PLANT, stock=STOCK)
        self.check_nothing_changed(live, Nothing, "undo")
        for operation in [("day",), ("days", 4), ("sell", 1), ("add", 1), ("remove",)]:
            perform(live, operation)
            live.undo()
            self.check_nothing_changed(live, Nothing, "undo")

    def test_refused_operations_are_not_undone(self):
        live = LivePlant(PLANT, stock=STOCK)
        live.day()
        for name, argument in [("days", 0), ("sell", 4), ("add", -1)]:
            with self.assertRaises(PlantError):
                getattr(live, name)(argument)
        live.undo()
        self.assertEqual(state(live), (PLANT, STOCK, 4, []))

    def test_live_plants_are_no_plants(self):
        live = LivePlant(PLANT, stock=STOCK)
        self.check_nothing_changed(live, NoStation, "sell", live)
        for value in [live, [live], (live,)]:
            with self.assertRaises(NoPlant):
                LivePlant(value)
            with self.assertRaises(NoStock):
                LivePlant(PLANT, stock=value)
        self.assertEqual(LivePlant(WIDE).stock(), (0, 1, 2, 3, 4, 5))


if __name__ == "__main__":
    unittest.main()
