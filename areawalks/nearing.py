"""The place with the fewest steps among endlessly many: those of a class of a closed floor.

The table of the floor is told by its home number and by two units, the (x, y, area) of two of its places
whose products have all its ends. As the home number divides x and y of both, the areas of these products
are, but for multiples of it, just sums of the areas of the units.
"""

from areawalks.ground import fewest_steps, quotient_up
from areawalks.places import Place

ORIGIN = (0, 0, 0)


def near_units(first, second):
    """Two units in the place of two others, with ends as near home as can be, the nearer one first."""
    while True:
        if ahead_of(second, second) < ahead_of(first, first):
            first, second = second, first
        square = ahead_of(first, first)
        times = (2 * ahead_of(first, second) + square) // (2 * square)
        if times == 0:
            return first, second
        second = beside(second, first, -times)


def ahead_of(one, other):
    """How far one end lies in the direction of the other one, times how far this one is away."""
    return one[0] * other[0] + one[1] * other[1]


def aside_of(one, other):
    """How far one end lies aside of the direction of the other one, times how far this one is away."""
    return one[0] * other[1] - one[1] * other[0]


def beside(point, unit, times):
    """The point with a unit so many times in front of it."""
    return point[0] + times * unit[0], point[1] + times * unit[1], point[2] + times * unit[2]


def both_ways(look, start):
    """Looks at the start and what is below it, until nothing is to be seen any more; then at what is above it."""
    at = start
    while look(at):
        at = at - 1
    at = start + 1
    while look(at):
        at = at + 1


class Nearest:
    """The place with the fewest steps of those that were looked at, and these steps; None in the beginning."""

    def __init__(self, units, home):
        self.short, self.long = units
        self.home = home
        self.found = None
        self.fewest = None

    def look_at(self, place):
        """Looks at one place."""
        number = fewest_steps(place)
        if self.fewest is None or number < self.fewest:
            self.found = place
            self.fewest = number

    def is_out(self, number):
        """Whether so many steps are no fewer than those of the place that was found."""
        return self.fewest is not None and number >= self.fewest

    def look_around(self, point):
        """Looks at all places of the class of the point that may have fewer steps than what was found."""
        # Its ends lie on lines in the direction of the short unit; home is between two of these.
        start = -aside_of(point, self.short) // aside_of(self.long, self.short)
        both_ways(lambda times: self.look_along(beside(point, self.long, times)), start)

    def look_from_home(self):
        """The same for the places of the table itself, but not for home."""
        self.look_at(Place(0, 0, self.home))
        # The ways back of the others have as many steps.
        times = 1
        while self.look_over(beside(ORIGIN, self.short, times)):
            times += 1
        times = 1
        while self.look_along(beside(ORIGIN, self.long, times)):
            times += 1

    def look_along(self, point):
        """Looks at the places over a line, if there may be fewer steps; whether there may be."""
        x, y, _ = self.short
        if self.is_out(quotient_up(abs(aside_of(point, self.short)), max(abs(x), abs(y)))):
            return False
        # Up to where the line crosses an axis ends come nearer, from there on they go farther away.
        start = -point[0] // x if abs(x) >= abs(y) else -point[1] // y
        both_ways(lambda times: self.look_over(beside(point, self.short, times)), start)
        return True

    def look_over(self, point):
        """Looks at the places over an end, if there may be fewer steps; whether there may be."""
        x, y, area = point
        if self.is_out(abs(x) + abs(y)):
            return False
        # The nearer an area is to x * y / 2, the fewer are the steps.
        area = area + (x * y - 2 * area) // (2 * self.home) * self.home
        if x * y - 2 * area > self.home:
            area = area + self.home
        self.look_at(Place(x, y, area))
        return True
