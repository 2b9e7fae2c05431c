"""Lots: so many steps of each kind, in any order."""

from areawalks.checks import check_whole
from areawalks.framed import framed_walk
from areawalks.places import Place


class Lot:
    """How many steps east, north, west and south a walk has."""

    def __init__(self, east, north, west, south):
        for value in (east, north, west, south):
            check_whole(value)
        self.east = east
        self.north = north
        self.west = west
        self.south = south

    def __eq__(self, other):
        return (isinstance(other, Lot) and self.east == other.east and self.north == other.north
                and self.west == other.west and self.south == other.south)

    def ends(self):
        """The x and y at which all walks with these steps end."""
        return self.east - self.west, self.north - self.south

    def swept_areas(self):
        """The least and the greatest area of walks with these steps."""
        x, y = self.ends()
        most = max(self.east, self.west) * max(self.north, self.south)
        return max(0, x * y) - most, most - max(0, -x * y)

    def walk_with(self, area):
        """A Walk with these steps and this area, of at most seven runs, or None."""
        low, high = self.swept_areas()
        if not low <= area <= high:
            return None
        x, y = self.ends()
        return framed_walk(Place(x, y, area), max(self.east, self.west), max(self.north, self.south))
