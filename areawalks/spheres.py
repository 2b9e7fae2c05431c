"""How many places are so many steps away, and how many walks lead to a place."""

from areawalks.checks import check_whole
from areawalks.errors import TooFar
from areawalks.ground import areas_of_walks, fewest_steps
from areawalks.halves import walks_by_halves
from areawalks.places import Place, check_place

MOST_STEPS = 20
LAST_FIGURES = (72, 72, 44, 108, 72, 8, 108, 108, 8, 72, 108, 44)


def sphere(number):
    """How many places have exactly so many steps."""
    check_whole(number)
    if number == 0:
        return 1
    return places_within(number) - places_within(number - 1)


def ball(number):
    """How many places have at most so many steps."""
    check_whole(number)
    return places_within(number)


def sphere_places(number):
    """All places with exactly so many steps, ascending by x, y and area."""
    check_whole(number)
    check_near(number)
    places = []
    for x in range(-number, number + 1):
        for y in range(abs(x) - number, number - abs(x) + 1):
            places.extend([Place(x, y, area) for area in new_areas(x, y, number)])
    return places


def walks_to(place, number):
    """How many walks of exactly so many steps lead to the place."""
    check_place(place)
    check_whole(number)
    check_near(number)
    bounds = areas_of_walks(place.x, place.y, number)
    if bounds is None or place.area < bounds[0] or place.area > bounds[1]:
        return 0
    return walks_by_halves(place, number)


def least_walks(place):
    """How many least walks lead to the place."""
    check_place(place)
    return walks_to(place, fewest_steps(place))


def check_near(number):
    """Refuses numbers of steps that are too great for lists."""
    if number > MOST_STEPS:
        raise TooFar(number)


def places_within(number):
    """How many places have at most so many steps.

    How many have exactly so many is a polynomial of degree 3 for each remainder by 12, so the sums
    are polynomials of degree 4. Counted places show that these differ in their last figures alone.
    """
    last = LAST_FIGURES[number % len(LAST_FIGURES)]
    return ((((31 * number - 14) * number + 127) * number + 144) * number + last) // 72


def new_areas(x, y, number):
    """The areas, ascending, that walks of so many steps have and shorter walks have not."""
    bounds = areas_of_walks(x, y, number)
    if bounds is None:
        return []
    least, greatest = bounds
    before = areas_of_walks(x, y, number - 2)
    if before is None:
        return list(range(least, greatest + 1))
    return list(range(least, before[0])) + list(range(before[1] + 1, greatest + 1))
