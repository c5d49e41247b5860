"""Values that the functions refuse, and those that the document's examples use."""

PLANT = (0, 0, 2)
STOCK = (4, 3, 2, 1)
ORDERED = (1, 3, 5, 6)
WIDE = (0, 0, 1, 1, 2)

OTHER_KINDS = [None, True, False, "", "0", "shop 1\n", b"", b"\x00", {}, {0: 0}, [], [0], [[0]], ()]

NOT_PLANTS = [value for value in OTHER_KINDS if value != ()] + [
    0, 1, -1, 10 ** 36, [0, 0, 2], [()], (1,), (-1,), (0, 2), (0, -1), (0, 0, 3), (0, 0, 10 ** 36),
    (0, 0, -10 ** 36), (False,), (0, True), (0, False, 1), (None,), (0, None), ("0",), (0, "1"),
    ((),), ((0,),), (0, (0,)), ([0],), ({},), (b"\x00",), (0,) * 40, tuple(range(40)), (0,) * 200]

# For plants with four stations.
NOT_STATIONS = OTHER_KINDS + [-1, 4, 5, 10 ** 36, -10 ** 36, (0,), "shop"]

NOT_STOCKS = OTHER_KINDS + [
    0, 4, [4, 3, 2, 1], (4,), (4, 3, 2), (5, 4, 3, 2, 1), (4, 3, 2, 4), (4, 4, 2, 1), (0, 0, 0, 0),
    (4, 3, 2, True), (4, 3, False, 1), (True, 3, 2, 4), (4, 3, 2, None), (4, 3, 2, "1"), ("4", "3", "2", "1"),
    "4321", b"4321", (4, 3, 2, (1,)), (4, 3, [2], 1), (4, {}, 2, 1), ((4, 3, 2, 1),), (10 ** 40, 1, 2, 10 ** 40)]

NOT_DAYS = OTHER_KINDS + [-1, 2001, 2002, 10 ** 36, -10 ** 36, (1,), "1"]
