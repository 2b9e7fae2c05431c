"""Fewest steps, least walks and walks of a told number of steps."""

from areawalks.checks import check_integer, check_whole
from areawalks.framed import framed_walk
from areawalks.ground import areas_of_walks, best_sides, fewest_steps, spare_steps
from areawalks.places import check_place
from areawalks.runs import LETTERS, run_place


def steps(place):
    """The number of steps of the shortest walks to the place."""
    check_place(place)
    return fewest_steps(place)


def distance(one, other):
    """The number of steps of the shortest walks from one place to the other."""
    check_place(one)
    check_place(other)
    return fewest_steps(~one * other)


def least_walk(place):
    """A shortest Walk to the place, of at most six runs."""
    check_place(place)
    # No step of a least walk is taken back at once, so the last two of the
    # seven runs that a walk can have are not both there.
    return built_walk(place, fewest_steps(place))


def walk_of(place, number):
    """A Walk of exactly so many steps to the place, of at most seven runs, or None."""
    check_place(place)
    check_whole(number)
    bounds = areas_of_walks(place.x, place.y, number)
    if bounds is None or not bounds[0] <= place.area <= bounds[1]:
        return None
    return built_walk(place, number)


def areas(x, y, number):
    """The least and the greatest area of walks of so many steps to (x, y), or None."""
    check_integer(x)
    check_integer(y)
    check_whole(number)
    return areas_of_walks(x, y, number)


def nearer(place):
    """The letters of the steps to places that have fewer steps."""
    check_place(place)
    number = fewest_steps(place)
    return "".join([letter for letter in LETTERS if fewest_steps(place * run_place(letter, 1)) < number])


def first_letters(place):
    """The letters with which least walks to the place begin."""
    check_place(place)
    number = fewest_steps(place)
    return "".join([letter for letter in LETTERS if fewest_steps(~run_place(letter, 1) * place) < number])


def is_summit(place):
    """Whether all four neighbours of the place have fewer steps."""
    return nearer(place) == LETTERS


def lies_between(place, one, other):
    """Whether a shortest walk from one place to the other leads through this one."""
    for value in (place, one, other):
        check_place(value)
    return distance(one, place) + distance(place, other) == distance(one, other)


def built_walk(place, number):
    """A Walk of so many steps, which is a number that leads to the place."""
    across, up = abs(place.x), abs(place.y)
    width, height = best_sides(across, up, spare_steps(across, up, number))
    return framed_walk(place, width, height)
