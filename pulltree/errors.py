"""The errors that the package raises."""


class PlantError(ValueError):
    """The base of all errors of the package."""


class NoPlant(PlantError):
    """The value is not a plant."""


class NoStation(PlantError):
    """The value is not such a station of the plant."""


class NoStock(PlantError):
    """The value is not a stock of the plant."""


class NoPattern(PlantError):
    """The value is not a pattern of the plant."""


class NoDays(PlantError):
    """The value is not such a day or number of days."""


class NoBox(PlantError):
    """The value is not a box that is sold in this plant."""


class NotOrdered(PlantError):
    """The stock is not ordered."""


class NoWords(PlantError):
    """The value is not words of the plant."""


class NoNumber(PlantError):
    """The value is not the number of an ordered pattern."""


class TooMany(PlantError):
    """There are more than the function handles; size tells how many."""

    def __init__(self, size):
        self.size = size


class Full(PlantError):
    """The plant has no room for another station."""


class Nothing(PlantError):
    """There is nothing to undo."""


class NoText(PlantError):
    """The value is not the text of a plant and a stock."""


class NoRow(PlantError):
    """The value is not a row that the console can execute."""
