"""Renamings: two places that stand for the steps east and north."""

from areawalks.checks import is_integer
from areawalks.errors import BadNumber, NotOnto
from areawalks.places import Place, check_place, check_places
from areawalks.views import seen_from

MOST_TIMES = 1000
FINITE_ORDERS = (1, 2, 3, 4, 6)
STEPS = ((1, 0, 0), (0, 1, 0), (-1, 0, 0), (0, -1, 0))


class Renaming:
    """What becomes of places if two of them stand for the steps east and north."""

    def __init__(self, east, north):
        check_places([east, north])
        self.east = east
        self.north = north

    def __eq__(self, other):
        return isinstance(other, Renaming) and self.east == other.east and self.north == other.north

    def __call__(self, place):
        """The image of a place."""
        check_place(place)
        return image_by(self, place)

    def __mul__(self, other):
        """The other renaming first, then this one."""
        if not isinstance(other, Renaming):
            return NotImplemented
        return Renaming(image_by(self, other.east), image_by(self, other.north))

    def __invert__(self):
        """The renaming that undoes this one."""
        check_onto(self)
        sign = self.factor()
        east = source_over(self, self.north.y * sign, -self.east.y * sign)
        north = source_over(self, -self.north.x * sign, self.east.x * sign)
        return Renaming(east, north)

    def factor(self):
        """By how much the areas over home are multiplied."""
        return self.east.twist(self.north)

    def power(self, number):
        """The renaming done so many times, below 0 its undoing."""
        if not is_integer(number) or abs(number) > MOST_TIMES:
            raise BadNumber(number)
        left = self if number >= 0 else ~self
        number = abs(number)
        done = same_names()
        while number > 0:
            if number & 1 == 1:
                done = done * left
            number = number >> 1
            if number > 0:
                left = left * left
        return done

    def order(self):
        """The least number from 1 on for which the power changes no place, or None."""
        # Only these are orders of renamings: the ends alone come back after so many times or
        # never, and if the areas have not come back with them, they never will.
        for number in FINITE_ORDERS:
            if self.power(number) == same_names():
                return number
        return None

    def index(self):
        """The square of the factor, None if it is 0."""
        factor = self.factor()
        return None if factor == 0 else factor * factor

    def keeps_steps(self):
        """Whether the images of the four steps are the four steps."""
        images = [(place.x, place.y, place.area) for place in (self.east, self.north)]
        return self.factor() != 0 and images[0] in STEPS and images[1] in STEPS


def image_figures(east, north, place):
    """The x, y and area of the image of a place by a renaming."""
    x, y = place.x, place.y
    east_area = x * east.area + east.x * east.y * (x * (x - 1) // 2)
    north_area = y * north.area + north.x * north.y * (y * (y - 1) // 2)
    area = north_area + east_area + y * north.x * x * east.y + east.twist(north) * place.area
    return x * east.x + y * north.x, x * east.y + y * north.y, area


def image_by(renaming, place):
    """The image of a place by a renaming."""
    x, y, area = image_figures(renaming.east, renaming.north, place)
    return Place(x, y, area)


def source_over(renaming, x, y):
    """The place over (x, y) whose image has the area 0, by a renaming with the factor 1 or -1."""
    return Place(x, y, -renaming.factor() * image_by(renaming, Place(x, y, 0)).area)


def check_onto(renaming):
    """Refuses renamings that can not be undone."""
    if abs(renaming.factor()) != 1:
        raise NotOnto(renaming.factor())


def same_names():
    """The renaming that changes no place."""
    return Renaming(Place(1, 0, 0), Place(0, 1, 0))


def renaming_of_view(here):
    """The renaming that turns each place into what is seen from here."""
    return Renaming(seen_from(Place(1, 0, 0), here), seen_from(Place(0, 1, 0), here))
