"""Ends of tables, told by their ledges, and forms that keep squares from being ends."""

from math import gcd

from areawalks.places import home_place


def is_multiple(value, modulus):
    """Whether the modulus divides the value; 0 divides 0 only."""
    if modulus == 0:
        return value == 0
    return value % modulus == 0


def reduced(value, modulus):
    """The value's rest by the modulus; the value itself by 0."""
    return value if modulus == 0 else value % modulus


def order_of(value, modulus):
    """The least number from 1 on whose product with the value the modulus divides, or None."""
    if modulus == 0:
        return 1 if value == 0 else None
    return modulus // gcd(value, modulus)


def form_value(form, place):
    """The value of a form (f, g) at the end of a place."""
    return form[0] * place.x + form[1] * place.y


def bezout(first, second):
    """Two integers (f, g) whose f * first + g * second is the greatest common divisor."""
    low, high = (1, 0, first), (0, 1, second)
    while high[2] != 0:
        times = low[2] // high[2]
        low, high = high, tuple([one - times * other for one, other in zip(low, high)])
    if low[2] < 0:
        return -low[0], -low[1]
    return low[0], low[1]


def ledge_forms(ledge):
    """Two pairs of a form and a modulus.

    A square is an end exactly if both moduli divide the values of their forms there.
    """
    if len(ledge) == 0:
        return ((1, 0), 0), ((0, 1), 0)
    first = ledge[0]
    if len(ledge) == 1:
        return ((first.y, -first.x), 0), (bezout(first.x, first.y), gcd(first.x, first.y))
    second = ledge[1]
    return ((1, 0), first.x), ((-first.y, first.x), first.x * second.y)


def failed_form(ledge, place):
    """The first form, with its modulus, that keeps the place's end from being an end, or None."""
    for form, modulus in ledge_forms(ledge):
        if not is_multiple(form_value(form, place), modulus):
            return form, modulus
    return None


def end_powers(ledge, place):
    """The powers of the places of the ledge whose product has the place's end, which is an end."""
    if len(ledge) == 0:
        return []
    first = ledge[0]
    if len(ledge) == 1:
        return [place.x // first.x if first.x > 0 else place.y // first.y]
    times = place.x // first.x
    return [times, (place.y - times * first.y) // ledge[1].y]


def ledge_product(ledge, powers):
    """The product of these powers of the places of the ledge."""
    product = home_place()
    for place, times in zip(ledge, powers):
        product = product * place.power(times)
    return product


def height_over(ledge, place):
    """The place's area less that of the product of the ledge that has the same end."""
    return place.area - ledge_product(ledge, end_powers(ledge, place)).area


def is_made(ledge, home, place):
    """Whether a place is in the table of the ledge and the home number."""
    return failed_form(ledge, place) is None and is_multiple(height_over(ledge, place), home)
