"""Walks whose steps have prices."""

from areawalks.bargains import cheapest_frame
from areawalks.checks import check_from
from areawalks.errors import BadNumber
from areawalks.framed import framed_walk

HIGHEST_PRICE = 1000


class Prices:
    """What a step east, north, west and south costs."""

    def __init__(self, east, north, west, south):
        for value in (east, north, west, south):
            check_from(value, 1)
            if value > HIGHEST_PRICE:
                raise BadNumber(value)
        self.east = east
        self.north = north
        self.west = west
        self.south = south

    def __eq__(self, other):
        return (isinstance(other, Prices) and self.east == other.east and self.north == other.north
                and self.west == other.west and self.south == other.south)

    def price_of(self, walk):
        """The price of a Walk."""
        prices = {"e": self.east, "n": self.north, "w": self.west, "s": self.south}
        return sum([prices[letter] * times for letter, times in walk.runs])

    def least_price(self, place):
        """The least price of a walk to the place."""
        across, up = abs(place.x), abs(place.y)
        width, height = self.frame(place)
        straight = across * (self.west if place.x < 0 else self.east) + up * (self.south if place.y < 0 else self.north)
        return straight + (self.east + self.west) * (width - across) + (self.north + self.south) * (height - up)

    def cheapest(self, place):
        """A Walk to the place with the least price."""
        width, height = self.frame(place)
        return framed_walk(place, width, height)

    def frame(self, place):
        """The sides of a cheapest frame of the place."""
        flat = place.x * place.y
        product = max(place.area + max(0, -flat), max(0, flat) - place.area)
        return cheapest_frame(abs(place.x), abs(place.y), product, self.east + self.west, self.north + self.south)
