"""Walks seen from elsewhere."""

from math import gcd

from areawalks.checks import is_integer, is_whole
from areawalks.errors import EndsDiffer, Uneven
from areawalks.ledges import is_multiple
from areawalks.places import Place, check_place, check_places
from areawalks.solving import place_with


def seen_from(place, here):
    """The Place as which the place is seen from here."""
    check_place(place)
    check_place(here)
    # This is here * place * ~here.
    return place.lifted(here.twist(place))


def viewpoint(place, other):
    """The nearest place from which the one place is seen as the other, None if there is none."""
    check_place(place)
    check_place(other)
    if place.x != other.x or place.y != other.y:
        return None
    return nearest_view([place], [other])


def viewpoint_of_all(places, others):
    """The nearest viewpoint of two lists, or None."""
    check_ends(places, others)
    return nearest_view(places, others)


def view_bar(places, others):
    """A bar of two lists, or None if they have a viewpoint."""
    check_ends(places, others)
    count = len(places)
    rows = []
    for at in range(count):
        numbers = [int(at == other) for other in range(count)]
        rows.append([places[at].x, places[at].y, rise_between(places[at], others[at]), *numbers])
    for bar in bars_of(rows):
        if shows_no_view(bar, places, others):
            return bar
    return None


def is_bar(bar, places, others):
    """Whether a ViewBar is a bar of two lists."""
    check_ends(places, others)
    if len(bar.numbers) != len(places) or not is_whole(bar.modulus):
        return False
    return all([is_integer(number) for number in bar.numbers]) and shows_no_view(bar, places, others)


class ViewBar:
    """Integers and a modulus that show that two lists have no viewpoint."""

    def __init__(self, numbers, modulus):
        self.numbers = list(numbers)
        self.modulus = modulus


def check_ends(places, others):
    """Refuses what is no Place in a list, unlike lengths, and unlike ends at an index."""
    check_places(places)
    check_places(others)
    if len(places) != len(others):
        raise Uneven(len(places), len(others))
    for number, place in enumerate(places):
        if place.x != others[number].x or place.y != others[number].y:
            raise EndsDiffer(number)


def rise_between(place, other):
    """By how much the other place over the same square is higher."""
    return other.area - place.area


def nearest_view(places, others):
    """The nearest viewpoint of two lists with like ends, or None."""
    wants = [((place.y, -place.x), 0, rise_between(place, other)) for place, other in zip(places, others)]
    found = place_with([Place(1, 0, 0), Place(0, 1, 0)], wants)
    if found is None:
        return None
    view, free = found
    if len(free) == 0:
        return Place(view.x, view.y, 0)
    if len(free) == 2:
        return Place(0, 0, 0)
    return nearest_on_line(view, free[0])


def nearest_on_line(view, stride):
    """The nearest of the squares that are reached from a square by strides, also backward."""
    # The distance falls up to where x or y changes its sign and rises from there on.
    squares = []
    for part, unit in ((view.x, stride.x), (view.y, stride.y)):
        if unit != 0:
            for times in (-part // unit, -part // unit + 1):
                squares.append((view.x + times * stride.x, view.y + times * stride.y))
    best = min([(abs(x) + abs(y), x, y) for x, y in squares])
    return Place(best[1], best[2], 0)


def bars_of(rows):
    """The bars of which one is a bar of the rows, if they have no viewpoint.

    A row has the x, the y and the rise of a sum of places, and how often each of them is taken.
    """
    across, others = cleared(rows, 0)
    upward, still = cleared(others, 1)
    bars = [ViewBar(row[3:], 0) for row in still]
    if upward is not None:
        bars.append(ViewBar(upward[3:], abs(upward[1])))
    if across is not None and upward is not None:
        level = [upward[1] * one - across[1] * other for one, other in zip(across, upward)]
        bars.append(ViewBar(level[3:], abs(level[0])))
    elif across is not None:
        bars.append(ViewBar(across[3:], gcd(across[0], across[1])))
    return bars


def cleared(rows, column):
    """Takes multiples of rows off one another until one of them alone is not 0 in the column.

    Returned are this row, None if there is none, and the list of the others.
    """
    best = None
    others = []
    for row in rows:
        if row[column] == 0:
            others.append(row)
        elif best is None:
            best = row
        else:
            best, still = divided_rows(best, row, column)
            others.append(still)
    return best, others


def divided_rows(high, low, column):
    """Takes multiples of one row off another one until one of them is 0 in the column."""
    while low[column] != 0:
        times = high[column] // low[column]
        high, low = low, [one - times * other for one, other in zip(high, low)]
    return high, low


def shows_no_view(bar, places, others):
    """Whether integers, one for each index, and a modulus from 0 on are a bar."""
    across = sum([number * place.x for number, place in zip(bar.numbers, places)])
    up = sum([number * place.y for number, place in zip(bar.numbers, places)])
    rise = sum([number * rise_between(place, other) for number, place, other in zip(bar.numbers, places, others)])
    return is_multiple(across, bar.modulus) and is_multiple(up, bar.modulus) and not is_multiple(rise, bar.modulus)
