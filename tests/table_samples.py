"""Tables of all shapes, and slow ways to tell what they are."""

import itertools
import random

from areawalks.places import Place, home_place
from areawalks.recipes import brewed
from areawalks.tables import Table
from tests.samples import HUGE

SHAPES = [
    [], [(0, 0, 0)], [(0, 0, 4)], [(0, 0, -4), (0, 0, 6)], [(0, 3, 1)], [(0, -3, 1)], [(3, 0, 1)], [(-2, 5, 7)],
    [(2, 4, 0), (3, 6, 1)], [(2, 4, 0), (3, 6, 1), (0, 0, 12)], [(0, 4, 1), (0, 6, 0)], [(4, -6, 1), (0, 0, 6)],
    [(2, 0, 0), (0, 3, 0)], [(2, 0, 0), (1, 2, 0)], [(1, 0, 0), (0, 1, 0)], [(4, 0, 0), (0, 1, 0)],
    [(4, 2, 1), (-2, 5, 3), (0, 3, 0)], [(6, 0, 1), (0, 6, 2), (3, 3, 0), (0, 0, 9)], [(3, 0, 1), (0, 3, 2)],
    [(0, 2, 1), (5, 1, 0)], [(2, 0, 0), (0, 2, 0), (0, 0, 2)], [(4, 0, 0), (0, 4, 0), (0, 0, 2)],
    [(2, 0, 0), (1, 0, 0), (0, 0, 3), (1, 1, 1), (5, 2, -2), (0, 7, 1), (6, 6, 6), (-1, -1, 0)]]
VAST_SHAPES = [
    [(HUGE, -HUGE, 5), (3, HUGE * 9 + 1, -HUGE), (HUGE // 7, 1, 1)], [(HUGE, 2 * HUGE, 1), (-3 * HUGE, -6 * HUGE, 0)],
    [(0, 0, HUGE), (0, 0, 3 * HUGE), (0, HUGE, 1)], [(HUGE, HUGE + 2, HUGE), (HUGE + 2, HUGE, -HUGE)]]


def places_of(points):
    return [Place(*point) for point in points]


def tables():
    """One table of each shape."""
    return [Table(places_of(points)) for points in SHAPES]


def vast_tables():
    """Tables of great numbers."""
    return [Table(places_of(points)) for points in VAST_SHAPES]


def random_place(chance, most):
    return Place(*[chance.randint(-most, most) * chance.choice((0, 1, 1, 1)) for _ in range(3)])


def random_tables(number, most=6):
    """Tables of chance places, the same ones in each run."""
    chance = random.Random(7)
    return [
        Table([random_place(chance, most) for _ in range(chance.choice((1, 2, 2, 3, 8)))]) for _ in range(number)]


def box(reach, high):
    """All places with x and y up to reach and areas up to high, above and below 0."""
    return [
        Place(x, y, area) for x, y in itertools.product(range(-reach, reach + 1), repeat=2)
        for area in range(-high, high + 1)]


def made_place(table, powers):
    """The product of these powers of the ledge's places and, the last one, of the home place."""
    product = home_place()
    for place, times in zip(table.ledge, powers):
        product = product * place.power(times)
    return product * Place(0, 0, table.home * powers[-1])


def some_members(table):
    """Some places of a table, found by its figures alone."""
    width = len(table.ledge) + 1
    return [made_place(table, powers) for powers in itertools.product((-2, 0, 1, 3), repeat=width)]


def slowly_in(table, place):
    """Whether a place is in a table, told by trying ends one by one."""
    reach = abs(place.x) + abs(place.y) + 20
    if len(table.ledge) == 2:
        trials = [((place.x // table.ledge[0].x), power, 0) for power in range(-reach * 9, reach * 9)]
    else:
        trials = [(power, 0) for power in range(-reach, reach)] if table.ledge else [(0,)]
    for powers in trials:
        made = made_place(table, powers)
        if (made.x, made.y) == (place.x, place.y):
            height = place.area - made.area
            return height == 0 or (table.home > 0 and height % table.home == 0)
    return False


def check_made(test, table):
    """The table is just what its told places make, its recipe shows it, and its ledge is as it must be."""
    places = brewed(table.told, table.recipe)
    names = [places[number] for number in table.made]
    test.assertEqual(tuple(names[:len(table.ledge)]), table.ledge)
    test.assertEqual(names[len(table.ledge):], [Place(0, 0, table.home)] if table.home > 0 else [])
    for told in table.told:
        test.assertEqual(made_place(table, table.figures(told)), told)
    check_ledge(test, table)


def check_ledge(test, table):
    """A ledge of this form, with a home number that divides the twist of its places, tells a table."""
    test.assertGreaterEqual(table.home, 0)
    test.assertLessEqual(len(table.ledge), 2)
    for place in table.ledge:
        test.assertTrue(table.home == 0 or 0 <= place.area < table.home)
    if len(table.ledge) == 1:
        test.assertGreater((table.ledge[0].x, table.ledge[0].y), (0, 0))
        test.assertTrue(table.ledge[0].x > 0 or table.ledge[0].y > 0)
    if len(table.ledge) == 2:
        first, second = table.ledge
        test.assertTrue(first.x > 0 and second.x == 0 and 0 <= first.y < second.y)
        test.assertGreater(table.home, 0)
        test.assertEqual(first.x * second.y % table.home, 0)
