"""Sales: the order in which boxes are sold, and how they travel to the shop."""

from pulltree.checks import FARTHEST_DAY, check_days, check_plant, check_stock, is_integer, is_within
from pulltree.errors import NoBox
from pulltree.far import far_stock
from pulltree.plants import path_up, supplier_lists
from pulltree.stocks import oldest_giver, pass_day


def first_sales(plant, stock):
    """Returns the first boxes in the order in which they are sold."""
    check_plant(plant)
    check_stock(plant, stock)
    return sales_of_first(plant, stock)


def sold_on(plant, stock, day):
    """Returns the box that is sold on a day."""
    check_plant(plant)
    check_stock(plant, stock)
    check_days(day, 1, FARTHEST_DAY)
    if day <= len(stock):
        return sales_of_first(plant, stock)[day - 1]
    # A new box is sold n days after it was made.
    return max(stock) + day - len(stock)


def day_sold(plant, stock, box):
    """Returns the day on which a box is sold."""
    check_plant(plant)
    check_stock(plant, stock)
    check_box(stock, box)
    if box in stock:
        return sales_of_first(plant, stock).index(box) + 1
    return box - max(stock) + len(stock)


def travel(plant, stock, box):
    """Returns the stations at which a box stays, each with the day on which it comes there."""
    check_plant(plant)
    check_stock(plant, stock)
    check_box(stock, box)
    day = max(0, box - max(stock))
    boxes = list(far_stock(plant, stock, day))
    givers = supplier_lists(plant)
    stays = []
    for station in path_up(plant, boxes.index(box)):
        while boxes[station] != box:
            pass_day(givers, boxes)
            day += 1
        stays.append((station, day))
    return stays


def check_box(stock, box):
    """Raises NoBox unless the value is a first box of the checked stock or one that is made in time."""
    # 1 and True are equal, so the stock alone does not tell that True is no box.
    if is_integer(box) and box in stock:
        return
    if not is_within(box, max(stock) + 1, max(stock) + FARTHEST_DAY):
        raise NoBox("this box is neither in the stock nor made later")


def sales_of_first(plant, stock):
    """Returns the boxes of a checked stock in the order in which they are sold."""
    givers = supplier_lists(plant)
    sales = []
    waiting = [0]
    while waiting:
        station = oldest_giver(waiting, stock)
        sales.append(stock[station])
        waiting = [other for other in waiting if other != station] + givers[station]
    return sales
