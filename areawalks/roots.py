"""Roots of places, places in one direction, and powers of two places that make a third one."""

from math import gcd

from areawalks.checks import is_integer
from areawalks.errors import BadNumber, NoDirection, Still
from areawalks.ledges import bezout
from areawalks.places import Place, check_place, check_places


def root(place, number):
    """The place whose power with this number the place is, or None."""
    check_place(place)
    if not is_integer(number) or number == 0:
        raise BadNumber(number)
    if place.x % number != 0 or place.y % number != 0:
        return None
    x, y = place.x // number, place.y // number
    left = place.area - x * y * (number * (number - 1) // 2)
    return Place(x, y, left // number) if left % number == 0 else None


def greatest_root(place):
    """The greatest number from 1 on for which the place has a root, and this root."""
    check_place(place)
    if place.is_home():
        raise Still()
    # Powers multiply x, y and the ground 2 * area - x * y alike. What is left when all is taken out of
    # them belongs to a place only if its ground is even or odd as x * y is; otherwise half can be taken.
    number = gcd(place.x, place.y, 2 * place.area)
    found = root(place, number)
    if found is None:
        number = number // 2
        found = root(place, number)
    return number, found


def along(place):
    """The place without area that is the first one in the direction of the place."""
    check_place(place)
    common = gcd(place.x, place.y)
    if common == 0:
        raise NoDirection()
    return Place(place.x // common, place.y // common, 0)


def figures_along(place, other):
    """The power of along(place), and the storeys above it, that make the other place; None if none do."""
    check_places([place, other])
    unit = along(place)
    if place.twist(other) != 0:
        return None
    times = other.x // unit.x if unit.x != 0 else other.y // unit.y
    return times, other.area - unit.power(times).area


def powers_to(one, other, goal):
    """All pairs (m, n) such that the m-th power of the one with the n-th of the other behind it is the goal.

    None if there are none, otherwise one pair and the list of the steps that lead to all others.
    """
    check_places([one, other, goal])
    if one.twist(other) == 0:
        return powers_in_direction(one, other, goal)
    found = pairs_to((one.x, one.y), (other.x, other.y), (goal.x, goal.y))
    if found is None:
        return None
    first, second = found[0]
    return found if one.power(first) * other.power(second) == goal else None


def powers_in_direction(one, other, goal):
    """The same for two places whose twist is 0."""
    guide = other if one.x == 0 and one.y == 0 else one
    # Places in one direction are multiplied in any order, so their figures are just added.
    wanted = direct_figures(guide, goal)
    if wanted is None:
        return None
    return pairs_to(direct_figures(guide, one), direct_figures(guide, other), wanted)


def direct_figures(guide, place):
    """The figures of a place in the direction of the guide, above home if the guide is there; or None."""
    if guide.x != 0 or guide.y != 0:
        return figures_along(guide, place)
    return (0, place.area) if place.x == 0 and place.y == 0 else None


def cross(one, other):
    """The twist of two pairs."""
    return one[0] * other[1] - one[1] * other[0]


def pairs_to(first, second, wanted):
    """All (m, n) such that m of the first pair and n of the second one are the wanted pair, as powers_to tells them."""
    turn = cross(first, second)
    if turn != 0:
        found = cross(wanted, second), cross(first, wanted)
        if found[0] % turn != 0 or found[1] % turn != 0:
            return None
        return (found[0] // turn, found[1] // turn), []
    if cross(first, wanted) != 0 or cross(second, wanted) != 0:
        return None
    for at in range(2):
        if first[at] != 0 or second[at] != 0:
            return numbers_to(first[at], second[at], wanted[at])
    return ((0, 0), [(1, 0), (0, 1)]) if wanted == (0, 0) else None


def numbers_to(first, second, wanted):
    """All (m, n) with m * first + n * second = wanted, for numbers that are not both 0."""
    common = gcd(first, second)
    if wanted % common != 0:
        return None
    step = second // common, -first // common
    if step < (0, 0):
        step = -step[0], -step[1]
    start = [wanted // common * times for times in bezout(first, second)]
    at = 0 if step[0] > 0 else 1
    back = start[at] // step[at]
    return (start[0] - back * step[0], start[1] - back * step[1]), [step]
