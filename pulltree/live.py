"""Live plants: plants whose stations and boxes change, and whose changes can be undone."""

from pulltree.checks import FARTHEST_DAY, MOST_STATIONS, check_days, check_plant, check_station, check_stock
from pulltree.errors import Full, NoStation, Nothing
from pulltree.far import far_stock
from pulltree.plants import supplier_lists
from pulltree.stocks import pass_day


class LivePlant:
    """A plant with its stock, and the operations on them."""

    def __init__(self, plant, *, stock=None):
        check_plant(plant)
        if stock is None:
            stock = tuple(range(len(plant) + 1))
        check_stock(plant, stock)
        self.customers = plant
        self.boxes = stock
        # Each operation that is not undone, with the plant and the stock before it.
        self.past = []

    def __eq__(self, other):
        return isinstance(other, LivePlant) and self.customers == other.customers and self.boxes == other.boxes

    def __len__(self):
        return len(self.boxes)

    def day(self):
        """Performs a day; returns the box that is sold."""
        return self.pull(("day",), 0)

    def days(self, days):
        """Performs a number of days."""
        check_days(days, 1, FARTHEST_DAY)
        self.change(("days", days), self.customers, far_stock(self.customers, self.boxes, days))

    def sell(self, station):
        """Sells the box at any station; returns it."""
        check_station(self.customers, station)
        return self.pull(("sell", station), station)

    def add(self, station):
        """Adds a station as a supplier of a station."""
        check_station(self.customers, station)
        if len(self.boxes) >= MOST_STATIONS:
            raise Full("the plant has no room for another station")
        self.change(("add", station), self.customers + (station,), self.boxes + (max(self.boxes) + 1,))

    def remove(self):
        """Removes the station with the greatest number and its box."""
        if len(self.boxes) == 1:
            raise NoStation("only station 0 is left")
        self.change(("remove",), self.customers[:-1], self.boxes[:-1])

    def undo(self):
        """Reverts the last operation that is not undone."""
        if len(self.past) == 0:
            raise Nothing("there is nothing to undo")
        operation, self.customers, self.boxes = self.past.pop()

    def plant(self):
        """Returns the current plant."""
        return self.customers

    def stock(self):
        """Returns the current stock."""
        return self.boxes

    def log(self):
        """Returns the operations that are not undone as a list of tuples."""
        return [operation for operation, customers, boxes in self.past]

    def pull(self, operation, first):
        """Performs the operation of selling the box at the first station of a chain; returns the box."""
        boxes = list(self.boxes)
        sold, chain = pass_day(supplier_lists(self.customers), boxes, first)
        self.change(operation, self.customers, tuple(boxes))
        return sold

    def change(self, operation, customers, boxes):
        """Keeps the operation and what was before it, and sets what is after it."""
        self.past.append((operation, self.customers, self.boxes))
        self.customers = customers
        self.boxes = boxes
