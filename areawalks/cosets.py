"""Cosets of tables, products of the places of two tables, and tables seen from places."""

from math import gcd

from areawalks.ledges import form_value, height_over, ledge_forms, ledge_product
from areawalks.places import Place, check_place
from areawalks.solving import place_with, solved
from areawalks.tables import Table, check_table


def in_product(one, other, place):
    """A Place of the one table and one of the other whose product is the place, None if there are none."""
    check_table(one)
    check_table(other)
    check_place(place)
    wants = [(form, modulus, form_value(form, place)) for form, modulus in ledge_forms(other.ledge)]
    found = place_with(one.ledge, wants)
    if found is None:
        return None
    # What is behind lies over an end of the other table now; the places that change this no
    # more, and the home place, are left to bring it to the right height.
    front, free = found
    behind = ~front * place
    free = [*free, Place(0, 0, one.home)]
    heights = [height_over(other.ledge, maker) for maker in free]
    times = solved(heights, other.home, height_over(other.ledge, behind))
    if times is None:
        return None
    change = ledge_product(free, times)
    return front * change, ~change * behind


def coset_place(one, here, other, there):
    """A Place in the coset of here by the one table and in that of there by the other, or None."""
    check_table(one)
    check_place(here)
    check_table(other)
    check_place(there)
    both = in_product(one, other, here * ~there)
    return None if both is None else both[1] * there


def least_moved(table):
    """The least of the tables that the table is seen as from places."""
    check_table(table)
    ledge = table.ledge
    if len(ledge) == 1:
        ledge = [least_single(ledge[0], table.home)]
    elif len(ledge) == 2:
        ledge = least_pair(ledge[0], ledge[1], table.home)
    return Table([*ledge, Place(0, 0, table.home)])


def least_single(place, home):
    """The only place of a ledge with the least area."""
    return Place(place.x, place.y, place.area % gcd(place.x, place.y, home))


def least_pair(first, second, home):
    """The two places of a ledge with the least areas, that of the second one first."""
    unit = gcd(second.y, home)
    least = second.area % unit
    # One view that makes the second area least; by this many more east it is the same again.
    east = solved([second.y], home, least - second.area)[0]
    again = home // unit
    area = (first.area + east * first.y) % gcd(home, first.x, again * first.y)
    return [Place(first.x, first.y, area), Place(0, second.y, least)]


def viewed(one, other):
    """A Place from which the one table is seen as the other, or None."""
    check_table(one)
    check_table(other)
    ends = [(place.x, place.y) for place in one.ledge]
    if one.home != other.home or ends != [(place.x, place.y) for place in other.ledge]:
        return None
    wants = [
        ((place.y, -place.x), one.home, there.area - place.area) for place, there in zip(one.ledge, other.ledge)]
    found = place_with([Place(1, 0, 0), Place(0, 1, 0)], wants)
    return None if found is None else found[0]
