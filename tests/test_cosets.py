"""Promises 2, 14, 17, 18, 46 and 61: cosets, products of two tables, tables seen from places."""

import random
import unittest

from areawalks.cosets import coset_place, in_product, least_moved, viewed
from areawalks.errors import BadPlace
from areawalks.places import Place, home_place
from areawalks.tables import Table
from tests.samples import HUGE, assert_raises, figures_of, no_places, no_tables
from tests.table_samples import box, made_place, random_tables, some_members, tables, vast_tables

T = Table([Place(2, 0, 0), Place(0, 3, 0)])
V = Table([Place(4, 0, 0), Place(0, 1, 0)])


def small_tables():
    """Tables of each number of places in the ledge, with small numbers."""
    return tables() + random_tables(60, 3)


def members_near(table, reach):
    """A place of the table over each of its ends that is not far away."""
    found = {}
    sizes = range(-2 * reach, 2 * reach + 1)
    for first in sizes if table.ledge else [0]:
        for second in sizes if len(table.ledge) == 2 else [0]:
            powers = (first, second)[:len(table.ledge)]
            place = made_place(table, (*powers, 0))
            if abs(place.x) <= reach and abs(place.y) <= reach:
                found[place.x, place.y] = place
    return list(found.values())


class InProductTest(unittest.TestCase):
    def check(self, one, other, place):
        both = in_product(one, other, place)
        self.assertIsInstance(both, tuple)
        front, behind = both
        self.assertIn(front, one)
        self.assertIn(behind, other)
        self.assertEqual(front * behind, place)

    def test_examples(self):
        self.check(T, V, Place(2, 1, 2))
        self.assertIsNone(in_product(T, V, Place(1, 0, 0)))

    def test_products(self):
        for one in small_tables():
            for other in small_tables()[::5]:
                for front in some_members(one)[2::17]:
                    for behind in some_members(other)[1::13]:
                        self.check(one, other, front * behind)

    def test_all_places_of_small_boxes(self):
        # With an index the other table has, all cosets of what is common have a place near home.
        chance = random.Random(4)
        seen = {True: 0, False: 0}
        for one in small_tables():
            other = chance.choice([table for table in small_tables() if table.cosets() and table.cosets() < 80])
            fronts = [
                place.lifted(one.home * times) for place in members_near(one, 8)
                for times in range(other.home if one.home else 1)]
            rests = {figures_of(other.rest(~front)) for front in fronts}
            for place in chance.sample(box(3, 4), 12):
                # The place is front * behind exactly if ~place * front is in the other table.
                made = any(~front * place in other for front in fronts)
                if len(one.ledge) == 2 and one.ledge[0].x * one.ledge[1].y <= 8 and other.cosets() <= 20:
                    self.assertEqual(in_product(one, other, place) is not None, made)
                    seen[made] += 1
                if made:
                    self.check(one, other, place)
            self.assertIn(figures_of(other.rest(home_place())), rests)
        self.assertGreater(min(seen.values()), 20)

    def test_no_product(self):
        # Nothing is found slowly either where the program finds nothing.
        chance = random.Random(5)
        for one in small_tables():
            other = chance.choice(small_tables())
            for place in chance.sample(box(3, 4), 5):
                if in_product(one, other, place) is None:
                    for front in members_near(one, 6):
                        for times in range(-3, 4):
                            self.assertNotIn(~front.lifted(one.home * times) * place, other)

    def test_ledges_of_no_and_one_place(self):
        still, rows = Table([]), Table([Place(3, 0, 1)])
        up, lifts = Table([Place(0, 2, 0)]), Table([Place(0, 0, 5)])
        self.assertEqual([figures_of(place) for place in in_product(still, still, home_place())], [(0, 0, 0)] * 2)
        self.assertIsNone(in_product(still, still, Place(0, 0, 1)))
        self.check(still, rows, Place(6, 0, 2))
        self.assertIsNone(in_product(still, rows, Place(6, 0, 3)))
        self.check(rows, up, Place(6, 4, 26))
        self.assertIsNone(in_product(rows, up, Place(6, 4, 25)))
        self.assertIsNone(in_product(up, rows, Place(6, 4, 26)))
        self.check(up, rows, Place(6, 4, 2))
        self.check(lifts, rows, Place(3, 0, -4))
        self.assertIsNone(in_product(rows, lifts, Place(3, 0, -3)))
        self.check(rows, rows, Place(9, 0, 3))

    def test_products_that_need_heights_of_common_ends(self):
        # Over the common ends both tables have unlike areas; multiples of the difference are free.
        one, other = Table([Place(1, 0, 0), Place(0, 0, 12)]), Table([Place(1, 0, 4), Place(0, 0, 18)])
        for area in range(-20, 20):
            both = in_product(one, other, Place(5, 0, area))
            self.assertEqual(both is not None, area % 2 == 0)
            if both is not None:
                self.check(one, other, Place(5, 0, area))

    def test_great_numbers(self):
        for one in vast_tables() + [Table([Place(1, 0, HUGE)])]:
            for other in vast_tables():
                place = some_members(one)[-2] * some_members(other)[-1]
                self.check(one, other, place)
        far = Table([Place(HUGE, 0, 0), Place(0, HUGE, 0)])
        self.assertIsNone(in_product(far, far, Place(HUGE, 0, 1)))
        self.check(far, far, Place(-HUGE, HUGE, HUGE * HUGE))

    def test_wrong_values(self):
        for value in no_tables():
            assert_raises(self, BadPlace, {"value": value}, in_product, value, "other", None)
            assert_raises(self, BadPlace, {"value": value}, in_product, T, value, None)
        for value in no_places():
            assert_raises(self, BadPlace, {"value": value}, in_product, T, V, value)


class CosetPlaceTest(unittest.TestCase):
    def check(self, one, here, other, there):
        place = coset_place(one, here, other, there)
        self.assertEqual(one.rest(place), one.rest(here))
        self.assertEqual(other.rest(place), other.rest(there))

    def test_examples(self):
        self.check(T, Place(1, 0, 0), V, Place(1, 0, 0))
        self.assertIsNone(coset_place(T, Place(1, 0, 0), V, Place(0, 0, 0)))

    def test_common_places(self):
        chance = random.Random(6)
        for one in small_tables():
            for other in small_tables()[::9]:
                place = chance.choice(box(3, 3))
                here = chance.choice(some_members(one)) * place
                there = chance.choice(some_members(other)) * place
                self.check(one, here, other, there)

    def test_all_cosets_of_small_indexes(self):
        for one in tables():
            for other in tables():
                if one.cosets() in (1, 4, 8, 18, 36) and other.cosets() in (4, 6, 12, 16):
                    heres = {figures_of(one.rest(place)): place for place in box(2, 1)}
                    theres = {figures_of(other.rest(place)): place for place in box(1, 1)}
                    met = {(figures_of(one.rest(place)), figures_of(other.rest(place))) for place in box(6, 9)}
                    for first in heres:
                        for second in theres:
                            place = coset_place(one, heres[first], other, theres[second])
                            self.assertEqual(place is not None, (first, second) in met)
                            if place is not None:
                                self.check(one, heres[first], other, theres[second])

    def test_great_numbers(self):
        place = Place(HUGE, 3 - HUGE, 2 * HUGE)
        for one in vast_tables():
            for other in vast_tables():
                self.check(one, some_members(one)[4] * place, other, some_members(other)[-1] * place)

    def test_wrong_values(self):
        for value in no_tables():
            assert_raises(self, BadPlace, {"value": value}, coset_place, value, None, "other", None)
            assert_raises(self, BadPlace, {"value": value}, coset_place, T, home_place(), value, "there")
        for value in no_places():
            assert_raises(self, BadPlace, {"value": value}, coset_place, T, value, "other", None)
            assert_raises(self, BadPlace, {"value": value}, coset_place, T, home_place(), V, value)


def areas_backward(table):
    """The area of the second place of the ledge, then that of the first one."""
    return [place.area for place in reversed(table.ledge)]


class LeastMovedTest(unittest.TestCase):
    def test_examples(self):
        self.assertEqual(least_moved(T.moved(Place(0, 1, 0))), T)
        self.assertEqual([figures_of(place) for place in least_moved(Table([Place(2, 0, 5)])).ledge], [(2, 0, 1)])

    def test_by_trying_all(self):
        for table in small_tables():
            reach = table.home if 0 < table.home <= 12 else 7
            seen = [table.moved(Place(x, y, 0)) for x in range(reach) for y in range(reach)]
            least = least_moved(table)
            self.assertEqual(least.home, table.home)
            if table.home > 0 and (len(table.ledge) < 2 or table.home <= 12):
                best = min(areas_backward(other) for other in seen)
                self.assertLessEqual(areas_backward(least), best)
                if table.home <= 12:
                    self.assertEqual(areas_backward(least), best)
            for other in seen[::5]:
                self.assertEqual(least_moved(other), least)

    def test_ledges_of_no_and_one_place(self):
        self.assertEqual(least_moved(Table([])), Table([]))
        self.assertEqual(least_moved(Table([Place(0, 0, 6)])).home, 6)
        for area in range(-30, 30):
            self.assertEqual(figures_of(least_moved(Table([Place(6, 9, area)])).ledge[0]), (6, 9, area % 3))
            table = least_moved(Table([Place(6, 12, area), Place(0, 0, 4)]))
            self.assertEqual((figures_of(table.ledge[0]), table.home), ((6, 12, area % 2), 4))

    def test_second_area_first(self):
        # Seen from x = 1 the first area would be 0, but the second one would be greater.
        table = Table([Place(4, 1, 3), Place(0, 4, 2), Place(0, 0, 8)])
        self.assertEqual(table.home, 8)
        self.assertEqual([figures_of(place) for place in least_moved(table).ledge], [(4, 1, 1), (0, 4, 2)])

    def test_great_numbers(self):
        for table in vast_tables() + [Table([Place(HUGE, 2 * HUGE, -5 * HUGE + 3)])]:
            least = least_moved(table)
            self.assertEqual(least_moved(table.moved(Place(-HUGE, HUGE + 2, 1))), least)
            self.assertIsNotNone(viewed(table, least))
        self.assertEqual(least_moved(Table([Place(HUGE, 2 * HUGE, -5 * HUGE + 3)])).ledge[0].area, 3)

    def test_wrong_values(self):
        for value in no_tables():
            assert_raises(self, BadPlace, {"value": value}, least_moved, value)


class ViewedTest(unittest.TestCase):
    def check(self, one, other):
        place = viewed(one, other)
        self.assertIsInstance(place, Place)
        self.assertEqual(one.moved(place), other)

    def test_examples(self):
        self.assertIsNone(viewed(T, V))

    def test_tables_from_all_sides(self):
        for table in small_tables():
            for place in box(2, 0):
                self.check(table, table.moved(place))
            self.check(table, least_moved(table))

    def test_just_where_the_least_are_equal(self):
        for one in small_tables():
            for other in small_tables()[::4]:
                self.assertEqual(viewed(one, other) is not None, least_moved(one) == least_moved(other))

    def test_unlike_areas(self):
        self.assertIsNone(viewed(Table([Place(4, 6, 0)]), Table([Place(4, 6, 1)])))
        self.check(Table([Place(4, 6, 0)]), Table([Place(4, 6, -8)]))
        self.assertIsNone(viewed(Table([Place(4, 6, 0)]), Table([Place(4, 6, 0), Place(0, 0, 1)])))
        self.assertIsNone(viewed(Table([]), Table([Place(0, 0, 1)])))
        self.check(Table([]), Table([]))

    def test_great_numbers(self):
        for table in vast_tables():
            self.check(table, table.moved(Place(HUGE, -3 * HUGE, 0)))

    def test_wrong_values(self):
        for value in no_tables():
            assert_raises(self, BadPlace, {"value": value}, viewed, value, "other")
            assert_raises(self, BadPlace, {"value": value}, viewed, T, value)


if __name__ == "__main__":
    unittest.main()
