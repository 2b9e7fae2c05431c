"""Walks in a frame: most of them go round three sides of it, and come to the area by a bend."""

from areawalks.walks import Walk


def framed_walk(place, width, height):
    """A Walk to the place, of at most seven runs.

    The width is the greater one of its numbers of steps east and west, the height that of its numbers
    of steps north and south. The area is one that walks with so many steps of each kind have.
    """
    across, up = abs(place.x), abs(place.y)
    east, west = ("w", "e") if place.x < 0 else ("e", "w")
    north, south = ("s", "n") if place.y < 0 else ("n", "s")
    # Mirrors bring x and y from 0 on, and exchanging east with north brings the area from x * y / 2 on.
    area = place.area if (place.x < 0) == (place.y < 0) else -place.area
    if 2 * area < across * up:
        area = across * up - area
        across, up, width, height = up, across, height, width
        east, north, west, south = north, east, south, west
    climbed = climb(width, height, area, east, north)
    return Walk([(south, height - up), *climbed, (west, width - across)])


def climb(width, height, area, east, north):
    """The runs of a walk so far east and so far north, without other steps, that has the area."""
    if height == 0:
        return [(east, width)]
    full, extra = divmod(area, height)
    bend = min(1, width - full)
    return [(east, full), (north, height - extra), (east, bend), (north, extra), (east, width - full - bend)]
