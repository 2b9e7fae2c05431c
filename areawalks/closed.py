"""Closed floors: places that differ by a table are one."""

from areawalks.errors import NotClosed, TooMany
from areawalks.floors import ring_sizes
from areawalks.least import least_walk
from areawalks.nearing import Nearest, near_units
from areawalks.tables import Table


class Closed:
    """The floor of a table that is normal and has an index."""

    def __init__(self, basis):
        if not isinstance(basis, Table) or basis.cosets() is None or not basis.is_normal():
            raise NotClosed()
        self.basis = basis
        first, second = [(place.x, place.y, place.area) for place in basis.ledge]
        self.units = near_units(first, second)

    def rest_of(self, place):
        """The rest of the place by the table."""
        return self.basis.rest(place)

    def steps_between(self, one, other):
        """The distance from the class of one place to that of the other."""
        return self.nearest_of(~one * other).fewest

    def walk_between(self, one, other):
        """A shortest Walk from the class of one place to that of the other."""
        return least_walk(self.nearest_of(~one * other).found)

    def least_round(self):
        """A Place of the table, other than home, with as few steps as possible."""
        nearest = Nearest(self.units, self.basis.home)
        nearest.look_from_home()
        return nearest.found

    def spread(self, *, most=5000):
        """The numbers of classes at the distances 0, 1, 2, .. from that of home."""
        if self.basis.cosets() > most:
            raise TooMany(most)
        return ring_sizes(self.basis)

    def nearest_of(self, place):
        """What was found by looking around a class."""
        nearest = Nearest(self.units, self.basis.home)
        nearest.look_around((place.x, place.y, place.area))
        return nearest
