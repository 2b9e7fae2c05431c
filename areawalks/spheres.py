"""How many places are so many steps away, and how many walks lead to a place."""

from math import comb

from areawalks.checks import check_whole
from areawalks.errors import TooFar
from areawalks.ground import areas_of_walks, fewest_steps
from areawalks.places import Place, check_place
from areawalks.runs import LETTERS, run_place

MOST_STEPS = 20
PERIOD = 12
DEGREE = 4


def sphere(number):
    """How many places have exactly so many steps."""
    check_whole(number)
    if number < 2:
        return ends_count(number)
    return ends_count(number) - ends_count(number - 2)


def ball(number):
    """How many places have at most so many steps."""
    check_whole(number)
    if number == 0:
        return 1
    return ends_count(number) + ends_count(number - 1)


def sphere_places(number):
    """All places with exactly so many steps, ascending by x, y and area."""
    check_whole(number)
    check_near(number)
    places = []
    for x in range(-number, number + 1):
        for y in range(abs(x) - number, number - abs(x) + 1):
            places.extend([Place(x, y, area) for area in new_areas(x, y, number)])
    return places


def walks_to(place, number):
    """How many walks of exactly so many steps lead to the place."""
    check_place(place)
    check_whole(number)
    check_near(number)
    # Two halves of the walk end at far fewer places than the whole walk.
    fronts = counted_ends(number // 2)
    behinds = counted_ends(number - number // 2)
    total = 0
    for key in fronts:
        rest = ~Place(*key) * place
        total = total + fronts[key] * behinds.get((rest.x, rest.y, rest.area), 0)
    return total


def least_walks(place):
    """How many least walks lead to the place."""
    check_place(place)
    return walks_to(place, fewest_steps(place))


def check_near(number):
    """Refuses numbers of steps that are too great for lists."""
    if number > MOST_STEPS:
        raise TooFar(number)


def ends_count(number):
    """How many places walks of exactly so many steps lead to.

    A walk of so many steps leads to a place exactly if the place has as many steps
    or fewer by an even number. So these counts are sums of numbers of places, which are
    polynomials of degree 3 for each remainder by 12, and are themselves of degree 4.
    """
    turns, first = divmod(number, PERIOD)
    if turns <= DEGREE:
        return listed_ends(number)
    row = [listed_ends(first + PERIOD * turn) for turn in range(DEGREE + 1)]
    total = 0
    for order in range(DEGREE + 1):
        total = total + row[0] * comb(turns, order)
        row = [later - earlier for earlier, later in zip(row, row[1:])]
    return total


def listed_ends(number):
    """The same count, from all squares that are not too far away."""
    total = 0
    for x in range(number + 1):
        for y in range((number - x) & 1, number - x + 1, 2):
            least, greatest = areas_of_walks(x, y, number)
            # The squares on the other sides have as many areas.
            total = total + min(x + 1, 2) * min(y + 1, 2) * (greatest - least + 1)
    return total


def new_areas(x, y, number):
    """The areas, ascending, that walks of so many steps have and shorter walks have not."""
    bounds = areas_of_walks(x, y, number)
    if bounds is None:
        return []
    least, greatest = bounds
    before = areas_of_walks(x, y, number - 2)
    if before is None:
        return list(range(least, greatest + 1))
    return list(range(least, before[0])) + list(range(before[1] + 1, greatest + 1))


def counted_ends(number):
    """How many walks of so many steps lead to each place, by (x, y, area)."""
    strides = [run_place(letter, 1) for letter in LETTERS]
    counts = {(0, 0, 0): 1}
    for _ in range(number):
        further = {}
        for key in counts:
            for stride in strides:
                end = Place(*key) * stride
                found = (end.x, end.y, end.area)
                further[found] = further.get(found, 0) + counts[key]
        counts = further
    return counts
