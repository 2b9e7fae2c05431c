"""Lists and lots of places that renamings turn into one another."""

from areawalks.errors import Uneven
from areawalks.ledges import bezout
from areawalks.places import Place, check_places
from areawalks.renamings import Renaming, image_figures


def list_key(places):
    """A tuple that is equal for two lists exactly if they are alike."""
    check_places(places)
    return list_form(places)[0]


def alike(places, others):
    """A Renaming that turns each place into the other one with its index, or None."""
    check_both(places, others)
    return renaming_between(list_form(places), list_form(others))


def lot_key(places):
    """A tuple that is equal for two lists exactly if they are alike as lots."""
    check_places(places)
    return lot_form(places)[0][0]


def alike_lots(places, others):
    """A Renaming and the indexes of the others into which it turns the places, or None."""
    check_both(places, others)
    form, order = lot_form(places)
    other_form, other_order = lot_form(others)
    renaming = renaming_between(form, other_form)
    if renaming is None:
        return None
    indexes = [0] * len(order)
    for at, other_at in zip(order, other_order):
        indexes[at] = other_at
    return renaming, indexes


def check_both(places, others):
    """Refuses what is no Place in a list, and unlike lengths."""
    check_places(places)
    check_places(others)
    if len(places) != len(others):
        raise Uneven(len(places), len(others))


def renaming_between(form, other_form):
    """The Renaming that leads from one list to another by their forms, None if these have unlike keys."""
    key, east, north = form
    other_key, other_east, other_north = other_form
    if key != other_key:
        return None
    return ~Renaming(other_east, other_north) * Renaming(east, north)


def lot_form(places):
    """The form of the list in that order in which it is least, and this order."""
    best = None
    for order in orders(len(places)):
        form = list_form([places[at] for at in order])
        if best is None or form[0] < best[0][0]:
            best = form, order
    return best


def orders(count):
    """All orders of so many indexes."""
    found = [[]]
    for last in range(count):
        found = [order[:at] + [last] + order[at:] for order in found for at in range(last + 1)]
    return found


def list_form(places):
    """The key of a list, and the images of the steps east and north by a renaming that leads to it.

    The key has the x, y and area of places that are alike to the list, and the same for all alike lists.
    """
    forms = [settled(places, east, north) for east, north in level_renamings(places)]
    if len(forms) == 2 and forms[1][0] < forms[0][0]:
        return forms[1]
    return forms[0]


def level_renamings(places):
    """The east and north of one or two renamings by which the list has the same ends as all alike lists.

    The first end that is not (0, 0) comes to lie east, as near as it can, and the first one that does
    not lie on a line with it comes to lie north of this line, as near as it can and with 0 <= x < y.
    """
    ends = [place for place in places if place.x != 0 or place.y != 0]
    if len(ends) == 0:
        return mirrored_pair(1, 0, 0, 1)
    hub = ends[0]
    across, up = bezout(hub.x, hub.y)
    common = across * hub.x + up * hub.y
    aside, ahead = -hub.y // common, hub.x // common
    beside = [place for place in ends if hub.twist(place) != 0]
    if len(beside) == 0:
        return mirrored_pair(across, aside, up, ahead)
    second = beside[0]
    height = aside * second.x + ahead * second.y
    if height < 0:
        aside, ahead, height = -aside, -ahead, -height
    times = (across * second.x + up * second.y) // height
    return [(Place(across - times * aside, aside, 0), Place(up - times * ahead, ahead, 0))]


def mirrored_pair(across, aside, up, ahead):
    """Two renamings, of which the one has north and south exchanged behind the other.

    For places on one line both lead to the same ends.
    """
    return [(Place(across, aside * sign, 0), Place(up, ahead * sign, 0)) for sign in (1, -1)]


def settled(places, east, north):
    """The figures of the images, with areas as low as views make them, and the renaming that leads there."""
    points = [image_figures(east, north, place) for place in places]
    for column in range(2):
        times = view_times(points, column)
        points = [(x, y, area + times * (x, y)[column]) for x, y, area in points]
        east = east.lifted(times * (east.x, east.y)[column])
        north = north.lifted(times * (north.x, north.y)[column])
    return tuple(points), east, north


def view_times(points, column):
    """How often x, or y, is added to the areas so that the first area where it is not 0 is less than it."""
    for point in points:
        if point[column] != 0:
            return -(point[2] // point[column])
    return 0
