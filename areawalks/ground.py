"""How many steps a place needs, and which areas walks of so many steps have."""

from math import isqrt


def fewest_steps(place):
    """The number of steps of the shortest walks to the place."""
    longer = max(abs(place.x), abs(place.y))
    shorter = min(abs(place.x), abs(place.y))
    # Turns and mirrors leave the signed ground but for its sign,
    # so this is the area of the alike walk to (longer, shorter).
    area = (abs(2 * place.area - place.x * place.y) + longer * shorter) // 2
    if area <= longer * shorter:
        return longer + shorter
    if area <= longer * longer:
        return 2 * quotient_up(area, longer) + longer - shorter
    return 2 * half_outline(area) - longer - shorter


def quotient_up(number, divisor):
    """The least integer whose product with the divisor is at least the number."""
    return -(-number // divisor)


def half_outline(area):
    """The least sum of two sides of a rectangle with at least the area, which is above 0."""
    return isqrt(4 * area - 1) + 1


def best_sides(across, up, spare):
    """The sides of the greatest rectangle that come of across and up by adding spare in all."""
    total = across + up + spare
    width = min(max(total // 2, across), across + spare)
    return width, total - width


def spare_steps(x, y, number):
    """How many of so many steps to (x, y) are taken back, None if no walk there has so many steps."""
    beyond = number - abs(x) - abs(y)
    if beyond < 0 or beyond & 1 == 1:
        return None
    return beyond // 2


def areas_of_walks(x, y, number):
    """The least and the greatest area of walks of so many steps to (x, y), None if there are none."""
    spare = spare_steps(x, y, number)
    if spare is None:
        return None
    width, height = best_sides(abs(x), abs(y), spare)
    return max(0, x * y) - width * height, width * height + min(0, x * y)
