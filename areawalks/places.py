"""Places: a square together with the area that was swept on the way."""

from areawalks.checks import check_integer
from areawalks.errors import BadPlace


class Place:
    """The square (x, y) and the area of the walks that lead to the place."""

    def __init__(self, x, y, area):
        for value in (x, y, area):
            check_integer(value)
        self.x = x
        self.y = y
        self.area = area

    def __eq__(self, other):
        return isinstance(other, Place) and self.x == other.x and self.y == other.y and self.area == other.area

    def __mul__(self, other):
        """This place, and the other one behind it."""
        check_place(other)
        return Place(self.x + other.x, self.y + other.y, self.area + other.area + self.x * other.y)

    def __invert__(self):
        """The way back."""
        return Place(-self.x, -self.y, self.x * self.y - self.area)

    def power(self, number):
        """The walk to this place done so many times, below 0 its way back."""
        check_integer(number)
        swept = number * self.area + self.x * self.y * (number * (number - 1) // 2)
        return Place(number * self.x, number * self.y, swept)

    def is_home(self):
        """Whether the walk of no steps leads here."""
        return self.x == 0 and self.y == 0 and self.area == 0

    def lifted(self, storeys):
        """The place so many storeys higher."""
        check_integer(storeys)
        return Place(self.x, self.y, self.area + storeys)

    def twist(self, other):
        """How much lower the product is in the other order."""
        check_place(other)
        return self.x * other.y - other.x * self.y


def check_place(value):
    """Refuses what is not a Place."""
    if not isinstance(value, Place):
        raise BadPlace(value)


def check_places(values):
    """Refuses the first value that is not a Place."""
    for value in values:
        check_place(value)


def home_place():
    """The place to which the walk of no steps leads."""
    return Place(0, 0, 0)


def product_of(places):
    """The places one behind the other."""
    product = home_place()
    for place in places:
        product = product * place
    return product
