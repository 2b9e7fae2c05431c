"""Numbers of walks, counted by their halves.

A pack holds the numbers of walks to one square for all areas in one integer: that for an area
stands as many slots up as the area is, so that a step north or south over x moves them by x slots.
"""


def walks_by_halves(place, number):
    """How many walks of exactly so many steps lead to the place."""
    # There are fewer walks than 4 to this power, so no number leaves its slot.
    slot = 2 * number + 1
    later = number - number // 2
    # No area of so many steps is below the negative of this, so no number is lost at the lower end.
    deep = later * later // 4
    fronts = {(0, 0): 1 << slot * deep}
    for _ in range(number // 2):
        fronts = step_further(fronts, slot)
    behinds = fronts if later == number // 2 else step_further(fronts, slot)
    return joined_walks(fronts, behinds, place.lifted(2 * deep), slot)


def step_further(packs, slot):
    """The packs of all squares, one step further."""
    further = {}
    for square in packs:
        x, y = square
        pack = packs[square]
        if x < 0:
            up, down = pack >> -x * slot, pack << -x * slot
        else:
            up, down = pack << x * slot, pack >> x * slot
        further[x + 1, y] = further.get((x + 1, y), 0) + pack
        further[x - 1, y] = further.get((x - 1, y), 0) + pack
        further[x, y + 1] = further.get((x, y + 1), 0) + up
        further[x, y - 1] = further.get((x, y - 1), 0) + down
    return further


def joined_walks(fronts, behinds, place, slot):
    """How many walks to the place are one of the fronts with one of those behind it."""
    total = 0
    for square in fronts:
        x, y = square
        across, up = place.x - x, place.y - y
        # The walk behind begins over x, which its steps north and south sweep too.
        area = place.area - x * up
        if area >= 0 and (across, up) in behinds:
            total = total + (fronts[square] * behinds[across, up] >> area * slot)
    return total & (1 << slot) - 1
