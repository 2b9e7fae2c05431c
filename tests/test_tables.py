"""Promises 2, 9 to 14, 45 and 61: what tables are, their places, rests and powers."""

import itertools
import random
import unittest

from areawalks.errors import BadPlace, TooMany
from areawalks.places import Place, home_place, product_of
from areawalks.tables import Table
from areawalks.walks import Walk
from tests.samples import HUGE, assert_raises, figures_of, no_places
from tests.table_samples import (
    SHAPES, VAST_SHAPES, box, check_made, made_place, places_of, random_place, random_tables, slowly_in,
    some_members, tables, vast_tables)

EXAMPLE = Table([Place(2, 0, 0), Place(0, 3, 0)])
NARROW = Table([Place(4, 0, 0), Place(0, 1, 0)])
HOME_ONLY = Table([])


def ledge_of(table):
    return [figures_of(place) for place in table.ledge]


class MakingTest(unittest.TestCase):
    def test_examples(self):
        self.assertEqual((ledge_of(EXAMPLE), EXAMPLE.home), ([(2, 0, 0), (0, 3, 0)], 6))
        table = Table([Place(2, 0, 0), Place(1, 2, 0)])
        self.assertEqual((ledge_of(table), table.home), ([(1, 2, 0), (0, 4, 2)], 4))
        self.assertEqual(Table([Place(1, 0, 0), Place(0, 1, 0)]).home, 1)
        self.assertEqual(NARROW.home, 4)
        self.assertEqual(ledge_of(Table([Place(2, 0, 5)])), [(2, 0, 5)])

    def test_ledges_of_no_and_one_place(self):
        for told, ledge, home in (
                ([], [], 0), ([(0, 0, 0)], [], 0), ([(0, 0, -6)], [], 6), ([(0, 0, 4), (0, 0, -6)], [], 2),
                ([(0, -3, 1)], [(0, 3, -1)], 0), ([(-2, 5, 7)], [(2, -5, -17)], 0), ([(-3, 0, 1)], [(3, 0, -1)], 0),
                ([(3, 0, 7), (0, 0, -5)], [(3, 0, 2)], 5), ([(2, 0, 0), (3, 0, 0)], [(1, 0, 0)], 0),
                ([(2, 4, 0), (2, 4, 3)], [(2, 4, 0)], 3), ([(0, 4, 0), (0, 6, 1)], [(0, 2, 1)], 2)):
            table = Table(places_of(told))
            self.assertEqual((ledge_of(table), table.home), (ledge, home))

    def test_told_makes_ledge_and_ledge_makes_told(self):
        for table in tables() + vast_tables() + random_tables(80):
            check_made(self, table)

    def test_great_numbers(self):
        chance = random.Random(3)
        for number in (1, 2, 3, 8, 8):
            table = Table([random_place(chance, 10 ** 120 - 1) for _ in range(number)])
            check_made(self, table)
        first, second = 1, 1
        while second < 10 ** 119:
            first, second = second, first + second
        check_made(self, Table([Place(first, 0, 1), Place(second, 1, 0), Place(0, first, second)]))

    def test_products_are_in_the_table(self):
        for table in tables():
            told = [*table.told, *[~place for place in table.told]]
            for places in itertools.product(told[:6], repeat=3):
                self.assertIn(product_of(places), table)

    def test_only_one_table_for_what_is_made(self):
        chance = random.Random(11)
        for points in SHAPES + VAST_SHAPES:
            places = places_of(points)
            table = Table(places)
            for _ in range(4):
                chance.shuffle(places)
                for at in range(1, len(places)):
                    places[at] = places[at] * places[at - 1].power(chance.randint(-3, 3))
                if places:
                    places[0] = ~places[0]
                other = Table(places)
                self.assertEqual(ledge_of(other), ledge_of(table))
                self.assertEqual(other.home, table.home)
                self.assertTrue(other == table)

    def test_attributes(self):
        told = [Place(2, 0, 0), Place(0, 3, 0)]
        for given in (told, tuple(told)):
            table = Table(given)
            self.assertEqual(table.told, tuple(told))
            for value in (table.told, table.ledge, table.recipe, table.made):
                self.assertIs(value.__class__, tuple)
            self.assertTrue(all(line.__class__ is tuple and len(line) == 3 for line in table.recipe))
        self.assertEqual((HOME_ONLY.told, HOME_ONLY.ledge, HOME_ONLY.home, HOME_ONLY.made), ((), (), 0, ()))

    def test_copies(self):
        told = [Place(2, 0, 0), Place(0, 3, 0)]
        table = Table(told)
        told.append(Place(1, 0, 0))
        self.assertEqual(len(table.told), 2)
        self.assertEqual(table, EXAMPLE)

    def test_equal_by_value(self):
        self.assertTrue(Table([Place(2, 0, 0), Place(2, 3, 0)]) == EXAMPLE)
        self.assertFalse(Table([Place(2, 0, 0), Place(2, 3, 0)]) != EXAMPLE)
        for other in (NARROW, Table([]), Table([Place(2, 0, 0), Place(0, 3, 0), Place(0, 0, 3)]), Place(2, 0, 0),
                      Table([Place(2, 0, 1), Place(0, 3, 0)]), None, 6, EXAMPLE.ledge, [*EXAMPLE.ledge], Walk("")):
            self.assertFalse(EXAMPLE == other)
            self.assertTrue(EXAMPLE != other)

    def test_wrong_values(self):
        good = Place(1, 0, 0)
        for value in no_places():
            assert_raises(self, BadPlace, {"value": value}, Table, [value])
            assert_raises(self, BadPlace, {"value": value}, Table, [good, value, "later"])
            assert_raises(self, BadPlace, {"value": value}, Table, [good] * 8 + [value])
            assert_raises(self, BadPlace, {"value": value}, Table, (value,) + (good,) * 9)
        assert_raises(self, TooMany, {"most": 8}, Table, [good] * 9)
        assert_raises(self, TooMany, {"most": 8}, Table, told=[good] * 20)
        self.assertEqual(len(Table([good] * 8).told), 8)


class MembersTest(unittest.TestCase):
    def test_examples(self):
        self.assertEqual(EXAMPLE.figures(Place(2, 3, 12)), (1, 1, 1))
        self.assertIn(Place(2, 3, 6), EXAMPLE)
        self.assertNotIn(Place(2, 3, 4), EXAMPLE)

    def test_against_trying_ends(self):
        for table in tables():
            for place in box(4, 7)[::9]:
                found = slowly_in(table, place)
                self.assertIs(place in table, found)
                self.assertIs(table.figures(place) is None, not found)

    def test_figures(self):
        for table in tables() + vast_tables():
            for powers in itertools.product((-7, 0, 1, HUGE), repeat=len(table.ledge) + 1):
                place = made_place(table, powers)
                expected = powers if table.home > 0 else (*powers[:-1], 0)
                self.assertIs(place in table, True)
                self.assertEqual(table.figures(place), expected)

    def test_home_number_0(self):
        self.assertEqual(HOME_ONLY.figures(home_place()), (0,))
        self.assertIsNone(HOME_ONLY.figures(Place(0, 0, 1)))
        line = Table([Place(2, 4, 1)])
        self.assertEqual(line.figures(Place(2, 4, 1).power(-HUGE)), (-HUGE, 0))
        self.assertIsNone(line.figures(Place(2, 4, 1).power(5).lifted(1)))
        self.assertIsNone(line.figures(Place(1, 2, 0)))
        self.assertIsNone(line.figures(Place(2, 5, 1)))

    def test_wrong_values(self):
        for table in (HOME_ONLY, EXAMPLE, Table([Place(1, 2, 3)])):
            for value in no_places():
                assert_raises(self, BadPlace, {"value": value}, lambda given, where: given in where, value, table)
                for call in (table.figures, table.rest, table.bar, table.moved, table.power_in):
                    assert_raises(self, BadPlace, {"value": value}, call, value)


class RestTest(unittest.TestCase):
    def test_examples(self):
        self.assertEqual(figures_of(EXAMPLE.rest(Place(3, 4, 0))), (1, 1, 4))

    def assert_rest(self, table, place):
        rest = table.rest(place)
        self.assertIn(rest * ~place, table)
        if len(table.ledge) == 2:
            self.assertTrue(0 <= rest.x < table.ledge[0].x and 0 <= rest.y < table.ledge[1].y)
        if len(table.ledge) == 1 and table.ledge[0].x > 0:
            self.assertTrue(0 <= rest.x < table.ledge[0].x)
        if len(table.ledge) == 1 and table.ledge[0].x == 0:
            self.assertTrue(0 <= rest.y < table.ledge[0].y)
            self.assertEqual(rest.x, place.x)
        self.assertTrue(table.home == 0 or 0 <= rest.area < table.home)

    def test_bounds_and_cosets(self):
        for table in tables():
            for place in box(5, 5)[::7] + [Place(HUGE, -HUGE, HUGE)]:
                self.assert_rest(table, place)
        for table in vast_tables():
            for place in (Place(5, -7, 11), Place(-HUGE * 12, HUGE * 5, -HUGE), Place(HUGE ** 2, 1, HUGE ** 3)):
                self.assert_rest(table, place)

    def test_one_rest_for_each_coset(self):
        for table in tables():
            for member in some_members(table)[::3]:
                for place in (Place(1, 2, 3), Place(-5, 0, 2), Place(7, -3, -1)):
                    self.assertEqual(figures_of(table.rest(member * place)), figures_of(table.rest(place)))
                self.assertEqual(figures_of(table.rest(member)), (0, 0, 0))

    def test_cosets(self):
        self.assertEqual(EXAMPLE.cosets(), 36)
        self.assertIsNone(HOME_ONLY.cosets())
        self.assertIsNone(Table([Place(2, 1, 0), Place(0, 0, 3)]).cosets())
        for table in tables():
            if len(table.ledge) == 2 and table.cosets() < 300:
                first, second = table.ledge
                near = itertools.product(range(-1, first.x + 1), range(-1, second.y + 1), range(-1, table.home + 1))
                rests = {figures_of(table.rest(Place(*point))) for point in near}
                self.assertEqual(table.cosets(), len(rests))
                self.assertEqual(table.cosets(), first.x * second.y * table.home)
        vast = Table([Place(HUGE, 0, 0), Place(0, HUGE, 0)])
        self.assertEqual(vast.cosets(), HUGE ** 4)


class SeenTest(unittest.TestCase):
    def test_examples(self):
        moved = EXAMPLE.moved(Place(0, 1, 0))
        self.assertEqual((ledge_of(moved), moved.home), ([(2, 0, 4), (0, 3, 0)], 6))
        self.assertIs(EXAMPLE.is_normal(), False)

    def test_places_are_seen(self):
        for table in tables():
            for here in (Place(1, 0, 0), Place(-2, 3, 5), Place(0, -1, 7)):
                moved = table.moved(here)
                check_made(self, moved)
                self.assertEqual(moved.home, table.home)
                for place in some_members(table)[::5] + box(3, 3)[::11]:
                    self.assertIs(here * place * ~here in moved, place in table)
                self.assertEqual(moved.moved(~here), table)

    def test_great_numbers(self):
        for table in vast_tables() + tables():
            here = Place(HUGE, -HUGE, 1)
            self.assertEqual(table.moved(here).moved(~here), table)

    def test_normal_tables_are_seen_alike(self):
        normal = 0
        for table in tables() + random_tables(40):
            # The other places come of these two, and areas alone change nothing.
            alike = table.moved(Place(1, 0, 0)) == table and table.moved(Place(0, 1, 0)) == table
            self.assertIs(table.is_normal(), alike)
            normal += alike
        self.assertGreater(normal, 5)
        for told in ([], [(0, 0, 0)], [(0, 0, 7)], [(2, 0, 0), (0, 2, 0), (0, 0, 2)], [(1, 0, 0), (0, 1, 0)],
                     [(6, 3, 0), (0, 0, 3)]):
            self.assertIs(Table(places_of(told)).is_normal(), True)
        for told in ([(0, 1, 0)], [(1, 0, 0)], [(2, 1, 0), (0, 0, 2)], [(4, 0, 0), (0, 4, 0)]):
            self.assertIs(Table(places_of(told)).is_normal(), False)


class PowerTest(unittest.TestCase):
    def test_example(self):
        self.assertEqual(EXAMPLE.power_in(Place(1, 1, 0)), 12)

    def test_against_all_powers(self):
        chance = random.Random(5)
        for table in tables() + random_tables(30):
            for place in [random_place(chance, 5) for _ in range(12)] + [home_place()] + list(table.told):
                number = table.power_in(place)
                found = [other for other in range(1, 300) if place.power(other) in table][:1]
                if number is None or number >= 300:
                    self.assertEqual(found, [])
                else:
                    self.assertEqual([number], found)
                if number is not None:
                    self.assertIn(place.power(number), table)

    def test_none(self):
        self.assertIsNone(HOME_ONLY.power_in(Place(1, 0, 0)))
        self.assertIsNone(HOME_ONLY.power_in(Place(0, 0, 1)))
        self.assertEqual(HOME_ONLY.power_in(home_place()), 1)
        self.assertIsNone(Table([Place(2, 4, 1)]).power_in(Place(1, 1, 0)))
        self.assertIsNone(Table([Place(2, 4, 1)]).power_in(Place(0, 0, 1)))
        self.assertIsNone(Table([Place(2, 4, 1)]).power_in(Place(1, 2, 5)))
        self.assertEqual(Table([Place(2, 4, 1).power(2)]).power_in(Place(2, 4, 1)), 2)

    def test_great_numbers(self):
        table = Table([Place(HUGE, 0, 0), Place(0, HUGE, 0)])
        self.assertEqual(table.power_in(Place(1, 0, 0)), HUGE)
        self.assertEqual(table.power_in(Place(0, 0, 1)), HUGE ** 2)
        for table in vast_tables():
            place = Place(3, -5, 7)
            number = table.power_in(place)
            if number is not None:
                self.assertIn(place.power(number), table)
                for divisor in (2, 3, 5, 7):
                    if number % divisor == 0:
                        self.assertNotIn(place.power(number // divisor), table)


class UnchangedTest(unittest.TestCase):
    def test_nothing_is_changed(self):
        for table in tables():
            before = dict(vars(table))
            table.figures(Place(1, 2, 3)), table.rest(Place(1, 2, 3)), table.bar(Place(1, 2, 3)), table.cosets()
            table.common(EXAMPLE), table.joint(EXAMPLE), table.inside(EXAMPLE), table.moved(Place(1, 2, 3))
            table.is_normal(), table.power_in(Place(1, 2, 3))
            self.assertEqual(vars(table), before)


if __name__ == "__main__":
    unittest.main()
