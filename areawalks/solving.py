"""Products of places whose ends have told values by forms."""

from areawalks.ledges import bezout, form_value, is_multiple, ledge_product, order_of
from areawalks.places import home_place


def solved(values, modulus, wanted):
    """How many times to take each value so that the sum is the wanted one but for multiples of the modulus.

    None if no numbers of times do.
    """
    common = modulus
    times = []
    for value in values:
        before, now = bezout(common, value)
        times = [before * number for number in times] + [now]
        common = before * common + now * value
    if not is_multiple(wanted, common):
        return None
    if common == 0:
        return times
    return [wanted // common * number for number in times]


def kept_places(places, values, modulus):
    """Places over the ends of just those products of at most two places whose values the modulus divides.

    The values are told for the places; the value of a product is the sum of theirs.
    """
    if len(places) == 0:
        return []
    high, top = places[0], values[0]
    kept = []
    if len(places) == 2:
        low, bottom = places[1], values[1]
        while bottom != 0:
            times = top // bottom
            high, low = low, high * low.power(-times)
            top, bottom = bottom, top - times * bottom
        kept.append(low)
    number = order_of(top, modulus)
    if number is not None:
        kept.append(high.power(number))
    return kept


def place_with(places, wants):
    """A product of at most two places that has all wanted values, and places that change none of them.

    A want is a form, a modulus and the value of the form that is wanted but for multiples of the
    modulus. The places that are returned lie over the ends of all products without these values.
    None if no product has the wanted values.
    """
    found = home_place()
    free = list(places)
    for form, modulus, wanted in wants:
        values = [form_value(form, place) for place in free]
        times = solved(values, modulus, wanted - form_value(form, found))
        if times is None:
            return None
        found = found * ledge_product(free, times)
        free = kept_places(free, values, modulus)
    return found, free
