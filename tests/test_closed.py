"""Promises 2, 14, 31, 57 and 61: closed floors."""

import itertools
import random
import unittest

from areawalks.closed import Closed
from areawalks.errors import BadPlace, NotClosed, TooMany
from areawalks.indexes import tables_of
from areawalks.least import least_walk, steps
from areawalks.nearing import Nearest
from areawalks.places import Place, home_place
from areawalks.tables import Table
from areawalks.walks import Walk
from tests.samples import HUGE, STRIDES, assert_raises, figures_of, listed_steps, no_places, no_tables
from tests.table_samples import places_of, random_place

SHAPES = [
    # The home number, then p, q, r and s, t of the ledge.
    (1, 1, 0, 0, 1, 0), (1, 1, 0, 0, 7, 0), (1, 7, 0, 0, 1, 0), (1, 5, 3, 0, 8, 0), (1, 1, 12, 0, 30, 0),
    (2, 2, 0, 0, 2, 0), (2, 2, 0, 1, 2, 1), (2, 4, 2, 1, 6, 0), (2, 2, 2, 0, 40, 1), (3, 3, 0, 0, 3, 0),
    (3, 3, 3, 2, 9, 1), (3, 6, 0, 1, 3, 2), (4, 4, 0, 0, 4, 3), (4, 4, 4, 1, 16, 2), (5, 5, 0, 0, 5, 0), (5, 10, 5, 3, 10, 4),
    (6, 6, 6, 5, 12, 1), (7, 7, 0, 0, 7, 3), (8, 8, 0, 0, 8, 0), (9, 9, 0, 4, 9, 7), (13, 13, 0, 0, 13, 5)]


def table_of(shape):
    home, across, slant, low, up, high = shape
    return Table([Place(across, slant, low), Place(0, up, high), Place(0, 0, home)])


def listed_distances(table):
    """The distances of all classes from that of home, by their rests, class by class."""
    found = {(0, 0, 0): 0}
    ring = [home_place()]
    while ring:
        further = []
        for place in ring:
            for across, up in STRIDES.values():
                rest = table.rest(place * Place(across, up, 0))
                if figures_of(rest) not in found:
                    found[figures_of(rest)] = found[figures_of(place)] + 1
                    further.append(rest)
        ring = further
    return found


class ClosedTest(unittest.TestCase):
    def test_examples(self):
        floor = Closed(Table([Place(2, 0, 0), Place(0, 2, 0), Place(0, 0, 2)]))
        self.assertEqual(floor.steps_between(Place(0, 0, 0), Place(1, 1, 0)), 2)
        self.assertEqual(floor.steps_between(Place(0, 0, 0), Place(0, 0, 1)), 4)
        self.assertEqual(floor.steps_between(Place(0, 0, 0), Place(4, 6, 8)), 0)
        self.assertEqual(floor.spread(), [1, 2, 2, 2, 1])

    def test_attributes_and_names(self):
        table = table_of(SHAPES[4])
        floor = Closed(basis=table)
        self.assertIs(floor.basis, table)
        one, other = Place(1, 5, 2), Place(0, -3, 1)
        self.assertEqual(floor.walk_between(other=other, one=one).length, floor.steps_between(other=other, one=one))
        self.assertEqual(floor.rest_of(place=one), table.rest(one))
        self.assertEqual(floor.spread(most=30), floor.spread())
        self.assertRaises(TypeError, floor.spread, 30)
        self.assertTrue(floor == floor)
        self.assertFalse(floor == Closed(table))

    def test_tables_that_make_no_floor(self):
        for points in (
                [], [(0, 0, 3)], [(2, 0, 0)], [(2, 0, 0), (0, 0, 2)], [(0, 3, 1)], [(2, 0, 0), (0, 3, 0)],
                [(4, 0, 0), (0, 2, 0), (0, 0, 4)], [(2, 0, 0), (0, 4, 0), (0, 0, 4)], [(4, 2, 0), (0, 4, 0), (0, 0, 4)]):
            assert_raises(self, NotClosed, {}, Closed, Table(places_of(points)))
        for value in no_tables():
            assert_raises(self, NotClosed, {}, Closed, value)
        for table in tables_of(16):
            if table.is_normal():
                self.assertEqual(sum(Closed(table).spread()), 16)
            else:
                assert_raises(self, NotClosed, {}, Closed, table)

    def test_rests(self):
        for shape in SHAPES:
            table = table_of(shape)
            for place in places_of([(0, 0, 0), (5, -7, 11), (HUGE, -HUGE, 3)]):
                self.assertEqual(figures_of(Closed(table).rest_of(place)), figures_of(table.rest(place)))
        for value in no_places():
            assert_raises(self, BadPlace, {"value": value}, Closed(table).rest_of, value)

    def test_all_classes_of_small_floors(self):
        for shape in SHAPES:
            table = table_of(shape)
            floor = Closed(table)
            found = listed_distances(table)
            self.assertEqual(len(found), table.cosets())
            for point, distance in found.items():
                place = Place(*point)
                self.assertEqual(floor.steps_between(home_place(), place), distance, (shape, point))
                walk = floor.walk_between(home_place(), place)
                self.assertIsInstance(walk, Walk)
                self.assertEqual((walk.length, table.rest(walk.place())), (distance, place))
            sizes = list(found.values())
            self.assertEqual(floor.spread(), [sizes.count(number) for number in range(max(sizes) + 1)])

    def test_all_small_floors(self):
        for index in range(1, 28):
            for table in tables_of(index, normal=True):
                floor = Closed(table)
                found = listed_distances(table)
                for point, distance in found.items():
                    self.assertEqual(floor.steps_between(home_place(), Place(*point)), distance)
                sizes = list(found.values())
                self.assertEqual(floor.spread(), [sizes.count(number) for number in range(max(sizes) + 1)])

    def test_between_any_places(self):
        chance = random.Random(31)
        for shape in SHAPES:
            table = table_of(shape)
            floor = Closed(table)
            found = listed_distances(table)
            for _ in range(30):
                one, other = random_place(chance, 300), random_place(chance, 300)
                distance = found[figures_of(table.rest(~one * other))]
                self.assertEqual(floor.steps_between(one, other), distance)
                self.assertEqual(floor.steps_between(other, one), distance)
                walk = floor.walk_between(one, other)
                self.assertEqual((walk.length, table.rest(one * walk.place())), (distance, table.rest(other)))

    def test_least_rounds(self):
        near = listed_steps(14)
        tables = [table_of(shape) for shape in SHAPES]
        for index in (8, 9, 15):
            tables.extend(tables_of(index, normal=True))
        for table in tables:
            found = Closed(table).least_round()
            self.assertIn(found, table)
            self.assertFalse(found.is_home())
            rounds = [number for point, number in near.items() if number > 0 and Place(*point) in table]
            if rounds:
                self.assertEqual(steps(found), min(rounds), [figures_of(place) for place in table.ledge])
            else:
                self.assertGreater(steps(found), 14)

    def test_least_rounds_of_all_shapes(self):
        # A storey up is near if there are few of them, a row if it is short.
        for home, rounds in ((1, 1), (2, 2), (3, 3), (4, 4), (10, 10), (16, 16), (20, 18), (50, 30), (10 ** 40, 4 * 10 ** 20)):
            floor = Closed(table_of((home, home, 0, 0, home * HUGE, 0)))
            self.assertEqual(steps(floor.least_round()), rounds)
        floor = Closed(table_of((4, 4, 4, 1, HUGE * 4, 0)))
        self.assertEqual(steps(floor.least_round()), steps(Place(0, 0, 4)))


class FarTest(unittest.TestCase):
    def assert_distance(self, floor, one, other, distance):
        self.assertEqual(floor.steps_between(one, other), distance)
        walk = floor.walk_between(one, other)
        self.assertEqual((walk.length, floor.rest_of(one * walk.place())), (distance, floor.rest_of(other)))

    def test_one_class(self):
        floor = Closed(table_of((1, 1, 0, 0, 1, 0)))
        self.assert_distance(floor, Place(5, 6, 7), Place(HUGE, -HUGE, 3), 0)
        self.assertEqual(floor.spread(), [1])
        self.assertEqual(floor.spread(most=1), [1])
        self.assertEqual(steps(floor.least_round()), 1)

    def test_halfway_round(self):
        for side in (2, 3, 10, 11, HUGE, HUGE + 1):
            floor = Closed(table_of((1, side, 0, 0, side + 4, 0)))
            for x, y in itertools.product((0, side // 2, side // 2 + 1, -(side // 2), side - 1), repeat=2):
                distance = min(x % side, -x % side) + min(y % (side + 4), -y % (side + 4))
                self.assert_distance(floor, Place(3, 1, 4), Place(3, 1, 4) * Place(x, y, 0), distance)

    def test_few_and_many_storeys(self):
        for home in (1, 2, 3, 8, 100, 10 ** 40, HUGE):
            floor = Closed(table_of((home, home * 4, 0, 0, home * 5, 0)))
            for storeys in (1, 2, home // 2, home // 2 + 1, home - 1):
                least = min(steps(Place(0, 0, storeys % home)), steps(Place(0, 0, storeys % home - home)))
                self.assert_distance(floor, Place(1, 2, 3), Place(1, 2, 3).lifted(storeys), least)
            # Far ends are swept with any area.
            x, y = 2 * home - 1, 2 * home
            self.assert_distance(floor, home_place(), Place(x, y, home // 3), x + y)

    def test_diagonal_units(self):
        # All ends of a side of a square that stands on its corner are equally many steps away.
        far = 10 ** 50
        for home in (1, 2, 3, 5, 12, 10 ** 9):
            table = Table([Place(home, -home, 0), Place(home * far, home * far, 0), Place(0, 0, home)])
            floor = Closed(table)
            for x, y, distance in ((3, 1, 4 * home * far // 10 + 3), (7, 3, home * far - 3), (-5, 2, 3 * home * far // 10 - 3)):
                place = Place(home * far // 10 * x + 1, home * far // 10 * y + 2, 1)
                self.assert_distance(floor, home_place(), place, distance)

    def test_great_numbers(self):
        chance = random.Random(32)
        for home in (1, 1, 2, 3, 4, 10 ** 9 + 7, 10 ** 60, HUGE):
            for _ in range(6):
                p, q, s = [home * chance.randint(1, 10 ** chance.choice((1, 30, 110))) for _ in range(3)]
                table = Table([Place(p, q, chance.randrange(home)), Place(-q, s, 1), Place(0, 0, home)])
                floor = Closed(table)
                self.check_between(floor, Place(chance.randrange(HUGE), -chance.randrange(HUGE), HUGE), Place(p, 1, 0))
                found = floor.least_round()
                self.assertIn(found, table)
                self.assertFalse(found.is_home())
                self.assertLessEqual(steps(found), steps(Place(0, 0, home)))
                for place in table.ledge:
                    self.assertLessEqual(steps(found), steps(place))

    def check_between(self, floor, one, other):
        """The distance fits to those of the neighbours, and no place of the class that lies about is nearer."""
        distance = floor.steps_between(one, other)
        self.assert_distance(floor, one, other, distance)
        self.assertEqual(floor.steps_between(other, one), distance)
        for letter in "enws":
            further = other * Walk(letter).place()
            self.assertLessEqual(abs(floor.steps_between(one, further) - distance), 1)
        first, second = floor.basis.ledge
        near = ~one * floor.rest_of(other)
        for at, times, storeys in itertools.product(range(-3, 4), repeat=3):
            place = first.power(at) * second.power(times) * near
            self.assertLessEqual(distance, steps(place.lifted(floor.basis.home * storeys)))

    def test_distances_are_steps_to_near_places(self):
        chance = random.Random(33)
        floor = Closed(table_of((HUGE, HUGE, 0, 5, HUGE * 7, HUGE - 3)))
        for _ in range(40):
            one, way = random_place(chance, 10 ** 60), random_place(chance, 10 ** 50)
            self.assert_distance(floor, one, one * way, least_walk(way).length)

    def test_few_places_are_looked_at(self):
        looked = []

        class Counting(Nearest):
            def look_at(self, place):
                looked.append(place)
                super().look_at(place)

        chance = random.Random(34)
        for home in (1, 2, 3, 5, 17, 10 ** 20):
            for _ in range(60):
                p, q, s = [home * chance.randint(1, 10 ** chance.choice((0, 1, 9, 50))) for _ in range(3)]
                floor = Closed(Table([Place(p, q, 0), Place(-q, s, 0), Place(0, 0, home)]))
                del looked[:]
                Counting(floor.units, home).look_around((chance.randrange(HUGE), chance.randrange(HUGE), 1))
                Counting(floor.units, home).look_from_home()
                self.assertLess(len(looked), 40)


class SpreadTest(unittest.TestCase):
    def test_most(self):
        for shape, count in (((1, 5, 3, 0, 8, 0), 40), ((2, 2, 0, 0, 2, 0), 8), ((1, 1, 0, 0, 1, 0), 1)):
            floor = Closed(table_of(shape))
            self.assertEqual(sum(floor.spread(most=count)), count)
            self.assertEqual(sum(floor.spread(most=HUGE)), count)
            for most in (count - 1, 0, -HUGE):
                assert_raises(self, TooMany, {"most": most}, floor.spread, most=most)

    def test_five_thousand_classes(self):
        for shape in ((1, 50, 0, 0, 100, 0), (1, 1, 70, 0, 5000, 0), (5, 20, 5, 1, 50, 2), (10, 10, 0, 3, 50, 7)):
            sizes = Closed(table_of(shape)).spread()
            self.assertEqual((sum(sizes), sizes[0]), (5000, 1))
        for shape in ((1, 5001, 0, 0, 1, 0), (1, 3, 1, 0, 1667, 0), (18, 18, 0, 0, 18, 0), (HUGE, HUGE, 0, 1, HUGE, 0)):
            assert_raises(self, TooMany, {"most": 5000}, Closed(table_of(shape)).spread)
        self.assertEqual(sum(Closed(table_of((18, 18, 0, 0, 18, 0))).spread(most=5832)), 5832)

    def test_rings(self):
        ring = Closed(table_of((1, 1, 0, 0, 11, 0)))
        self.assertEqual(ring.spread(), [1, 2, 2, 2, 2, 2])
        self.assertEqual(Closed(table_of((1, 10, 0, 0, 1, 0))).spread(), [1, 2, 2, 2, 2, 1])
        # As long as no walk comes round, as many places are reached as on the open floor.
        self.assertEqual(Closed(table_of((17, 17, 0, 0, 17, 0))).spread()[:8], [1, 4, 12, 36, 82, 164, 294, 476])

    def test_new_lists(self):
        floor = Closed(table_of((2, 2, 0, 0, 2, 0)))
        floor.spread().append(7)
        self.assertEqual(floor.spread(), [1, 2, 2, 2, 1])


if __name__ == "__main__":
    unittest.main()
