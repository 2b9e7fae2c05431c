"""Paths by their areas, packed in integers, and what roots of one make of them.

A pack holds the numbers of paths for neighbouring areas in slots of one integer, the least area in
the highest slot, so that greater areas than are wanted fall off at the lower end.
"""

from math import comb

from areawalks.indexes import divisors

MOEBIUS = (
    0, 1, -1, -1, 0, -1, 1, -1, 0, 0, 1, -1, 0, -1, 1, 1, 0, -1, 0, -1, 0, 1, 1, -1, 0, 0, 1, 0, 0, -1, -1)


def slot_of(x, y):
    """So many bits that the number of all paths to (x, y) does not fill a slot."""
    return comb(x + y, x).bit_length() + 1


def packed_paths(x, y, count, slot):
    """The pack of the paths to (x, y) for the areas from 0 on, so many of them."""
    shorter, longer = min(x, y), max(x, y)
    pack, size = 1, 1
    # The numbers are the coefficients of the product of (1 - q ** (longer + step)) / (1 - q ** step).
    # Each product of the first factors tells paths, too, so nothing leaves its slot.
    for step in range(1, shorter + 1):
        wider = min(count, longer * step + 1)
        pack = pack << (wider - size) * slot
        size = wider
        shift = step * slot
        while shift < size * slot:
            pack = pack + (pack >> shift)
            shift = shift + shift
        pack = pack - (pack >> (longer + step) * slot)
    return pack


def weight_of(x, y, part, rest):
    """How often binomial(floor((x + y) / part), floor(x / part)) counts in numbers of paths by their rests.

    A modulus times the number of paths to (x, y) whose areas leave this rest by it is the sum of these
    binomials, each times its weight, for all parts that divide the modulus. The weight is the sum of
    root ** (area - rest) over the paths to the rests of x and y by the part, and the roots of one of just
    this order.
    """
    x, y = x % part, y % part
    if x + y >= part:
        return 0
    slot = slot_of(x, y)
    # As many paths have an area as have it less than x * y, so the pack reads alike from both ends.
    pack = packed_paths(x, y, x * y + 1, slot)
    total = 0
    for smaller in divisors(part):
        sign = MOEBIUS[part // smaller]
        if sign != 0:
            total = total + sign * smaller * folded(pack, smaller, rest, slot)
    return total


def folded(pack, modulus, rest, slot):
    """How many paths of a pack have areas that leave this rest by the modulus."""
    whole = pack % ((1 << modulus * slot) - 1)
    return whole >> rest % modulus * slot & (1 << slot) - 1
