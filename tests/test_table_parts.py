"""Promises 2, 15, 16, 45 and 61: common parts of tables, tables within tables, and bars."""

import itertools
import math
import unittest

from areawalks.errors import BadPlace, NotWithin
from areawalks.places import Place
from areawalks.tables import Table, TableBar, table_bars
from tests.samples import HUGE, assert_raises, figures_of, no_tables
from tests.table_samples import (
    box, check_made, places_of, random_tables, some_members, tables, vast_tables)

EXAMPLE = Table([Place(2, 0, 0), Place(0, 3, 0)])
NARROW = Table([Place(4, 0, 0), Place(0, 1, 0)])


def ledge_of(table):
    return [figures_of(place) for place in table.ledge]


def pairs_of_tables():
    """Pairs of all shapes, and some of chance."""
    return list(itertools.product(tables(), repeat=2)) + list(itertools.combinations(random_tables(12), 2))


class CommonTest(unittest.TestCase):
    def test_example(self):
        common = EXAMPLE.common(NARROW)
        self.assertEqual((ledge_of(common), common.home), ([(4, 0, 0), (0, 3, 0)], 12))

    def test_members(self):
        places = box(4, 6)[::9]
        for one, other in pairs_of_tables():
            common = one.common(other)
            for place in places + some_members(common)[::5] + some_members(one)[::7]:
                self.assertIs(place in common, place in one and place in other)

    def test_form(self):
        for one, other in pairs_of_tables():
            common = one.common(other)
            check_made(self, common)
            self.assertEqual(common.home, math.lcm(one.home, other.home))
            self.assertEqual(common, other.common(one))
            self.assertEqual(one.common(one), one)
            self.assertEqual(common.common(one), common)
            self.assertIs(common.inside(one) and common.inside(other), True)

    def test_no_place_is_left_out(self):
        # In a box so great that it holds a place over each end of the ledge of the common part.
        for one, other in itertools.product(tables()[12:20], repeat=2):
            common = one.common(other)
            ends = {(place.x, place.y) for place in box(12, 0)}
            for x, y in ends:
                over = [Place(x, y, area) for area in range(common.home)]
                both = [place for place in over if place in one and place in other]
                self.assertEqual(both, [place for place in over if place in common])

    def test_great_numbers(self):
        vast = vast_tables()
        for one, other in itertools.product(vast + tables()[8:14], repeat=2):
            common = one.common(other)
            check_made(self, common)
            self.assertEqual(common, other.common(one))
            for place in some_members(common)[::9]:
                self.assertIs(place in one and place in other, True)
        shared = Table([Place(HUGE, 0, 1), Place(0, HUGE, 1)]).common(Table([Place(HUGE + 1, 0, 0), Place(0, 2, 0)]))
        self.assertEqual(shared.ledge[0].x % (HUGE * (HUGE + 1)), 0)

    def test_home_number_0(self):
        line = Table([Place(2, 4, 1)])
        self.assertEqual(line.common(Table([Place(3, 6, 0)])).ledge, ())
        both = line.common(Table([Place(2, 4, 1).power(3)]))
        self.assertEqual((ledge_of(both), both.home), ([figures_of(Place(2, 4, 1).power(3))], 0))
        lifted = line.common(Table([Place(2, 4, 0), Place(0, 0, 3)]))
        self.assertEqual((ledge_of(lifted), lifted.home), ([figures_of(Place(2, 4, 1).power(3))], 0))
        self.assertEqual(Table([]).common(EXAMPLE), Table([]))
        self.assertEqual(Table([Place(0, 0, 4)]).common(Table([Place(0, 0, 6)])), Table([Place(0, 0, 12)]))

    def test_wrong_values(self):
        for table in (EXAMPLE, Table([])):
            for value in no_tables():
                for call in (table.common, table.joint, table.inside, table.cosets_in):
                    assert_raises(self, BadPlace, {"value": value}, call, value)


class JointTest(unittest.TestCase):
    def test_example(self):
        joint = EXAMPLE.joint(NARROW)
        self.assertEqual((ledge_of(joint), joint.home), ([(2, 0, 0), (0, 1, 0)], 2))

    def test_what_both_make(self):
        for one, other in pairs_of_tables():
            joint = one.joint(other)
            check_made(self, joint)
            self.assertEqual(joint, other.joint(one))
            if len(one.told) + len(other.told) <= 8:
                self.assertEqual(joint, Table([*one.told, *other.told]))
            self.assertIs(one.inside(joint) and other.inside(joint), True)

    def test_great_numbers(self):
        for one, other in itertools.product(vast_tables(), tables() + vast_tables()):
            joint = one.joint(other)
            check_made(self, joint)
            self.assertIs(one.inside(joint) and other.inside(joint), True)


class InsideTest(unittest.TestCase):
    def test_inside(self):
        self.assertIs(EXAMPLE.inside(EXAMPLE.joint(NARROW)), True)
        self.assertIs(EXAMPLE.joint(NARROW).inside(EXAMPLE), False)
        for one, other in pairs_of_tables():
            within = all(place in other for place in one.told)
            self.assertIs(one.inside(other), within)

    def test_cosets_in(self):
        self.assertEqual(EXAMPLE.cosets_in(EXAMPLE.joint(NARROW)), 9)
        for told, larger, number in (
                ([], [], 1), ([], [(0, 0, 2)], None), ([(0, 0, 6)], [(0, 0, 2)], 3), ([], [(1, 2, 3)], None),
                ([(2, 4, 4)], [(1, 2, 1)], 2), ([(0, 6, 0)], [(0, 2, 0)], 3), ([(0, 6, 0)], [(0, 2, 0), (0, 0, 5)], None),
                ([(0, 6, 0), (0, 0, 10)], [(0, 2, 0), (0, 0, 5)], 6), ([(1, 0, 0)], [(1, 0, 0), (0, 1, 0)], None),
                ([(HUGE, 0, 0), (0, HUGE, 0)], [(1, 0, 0), (0, 1, 0)], HUGE ** 4)):
            one, other = Table(places_of(told)), Table(places_of(larger))
            self.assertIs(one.inside(other), True)
            self.assertEqual(one.cosets_in(other), number)

    def test_counted_cosets(self):
        counted = 0
        for one, other in pairs_of_tables():
            joint = one.joint(other)
            number = one.cosets_in(joint)
            if one.cosets() is not None:
                self.assertEqual(number * joint.cosets(), one.cosets())
            if number is not None and number < 20:
                rests = {figures_of(one.rest(place)) for place in some_members(joint)}
                self.assertLessEqual(len(rests), number)
                counted += len(rests) == number
        self.assertGreater(counted, 50)

    def test_not_within(self):
        assert_raises(self, NotWithin, {}, EXAMPLE.cosets_in, NARROW)
        assert_raises(self, NotWithin, {}, EXAMPLE.cosets_in, Table([]))
        assert_raises(self, NotWithin, {}, Table([Place(0, 0, 2)]).cosets_in, Table([Place(0, 0, 4)]))
        assert_raises(self, NotWithin, {}, Table([Place(1, 0, 0)]).cosets_in, Table([Place(1, 0, 1)]))


class BarTest(unittest.TestCase):
    def assert_bar(self, table, place):
        bar = table.bar(place)
        if place in table:
            self.assertIsNone(bar)
            return
        self.assertIs(bar.__class__, TableBar)
        self.assertEqual(sorted(vars(bar)), ["form", "modulus", "remains"])
        self.assertIs(table_bars(bar, table, place), True)
        self.assert_is_bar(bar, table, place)
        for other in (bar.remains + 1, bar.remains - 1, bar.remains + bar.modulus, -bar.remains - bar.modulus, 0):
            if other != bar.remains:
                self.assertIs(table_bars(TableBar(bar.form, bar.modulus, other), table, place), False)

    def assert_is_bar(self, bar, table, place):
        self.assertGreaterEqual(bar.modulus, 0)
        if bar.form is None:
            self.assertEqual(bar.modulus, table.home)
            over = place.lifted(-bar.remains)
            self.assertIn(over, table)
        else:
            self.assertIs(bar.form.__class__, tuple)
            first, second = bar.form
            for end in table.ledge:
                value = first * end.x + second * end.y
                self.assertTrue(value == 0 or bar.modulus and value % bar.modulus == 0)
            left = first * place.x + second * place.y - bar.remains
            self.assertTrue(left == 0 or bar.modulus and left % bar.modulus == 0)
        self.assertTrue(bar.remains != 0 and (bar.modulus == 0 or 0 < bar.remains < bar.modulus))

    def test_examples(self):
        bar = EXAMPLE.bar(Place(2, 3, 4))
        self.assertEqual((bar.form, bar.modulus, bar.remains), (None, 6, 4))
        self.assertIsNotNone(EXAMPLE.bar(Place(1, 0, 0)).form)
        self.assertIs(table_bars(TableBar(None, 6, 4), EXAMPLE, Place(2, 3, 4)), True)
        self.assertIs(table_bars(TableBar(None, 6, 2), EXAMPLE, Place(2, 3, 4)), False)

    def test_all_tables(self):
        for table in tables() + random_tables(30):
            for place in box(4, 6)[::8]:
                self.assert_bar(table, place)

    def test_great_numbers(self):
        for table in vast_tables() + tables():
            for place in (Place(HUGE, 3, 5), Place(-HUGE, 2 * HUGE, 1), Place(0, 0, HUGE + 1), Place(HUGE ** 2, 0, 0)):
                self.assert_bar(table, place)
            for place in some_members(table)[::7]:
                self.assert_bar(table, place.lifted(1))
                self.assert_bar(table, place)

    def test_bars_by_forms(self):
        place = Place(1, 3, 0)
        self.assertIs(table_bars(TableBar((1, 0), 2, 1), EXAMPLE, place), True)
        self.assertIs(table_bars(TableBar([1, 0], 2, 1), EXAMPLE, place), True)
        self.assertIs(table_bars(TableBar((3, 0), 6, 3), EXAMPLE, place), True)
        self.assertIs(table_bars(TableBar((1, 0), 4, 1), EXAMPLE, place), False)
        self.assertIs(table_bars(TableBar((0, 1), 3, 0), EXAMPLE, place), False)
        self.assertIs(table_bars(TableBar((1, 0), 1, 0), EXAMPLE, place), False)
        self.assertIs(table_bars(TableBar((0, 0), 0, 0), EXAMPLE, place), False)
        self.assertIs(table_bars(TableBar((1, 0), 0, 1), EXAMPLE, place), False)
        line = Table([Place(2, 4, 1)])
        self.assertIs(table_bars(TableBar((2, -1), 0, -1), line, place), True)
        self.assertIs(table_bars(TableBar((-2, 1), 0, 1), line, place), True)
        self.assertIs(table_bars(TableBar((2, -1), 0, 1), line, place), False)
        self.assertIs(table_bars(TableBar((2, -1), 5, 4), line, place), True)

    def test_bars_by_areas(self):
        self.assertIs(table_bars(TableBar(None, 6, 4), EXAMPLE, Place(2, 4, 4)), False)
        self.assertIs(table_bars(TableBar(None, 3, 1), EXAMPLE, Place(2, 3, 4)), False)
        self.assertIs(table_bars(TableBar(None, 12, 10), EXAMPLE, Place(2, 3, 4)), False)
        self.assertIs(table_bars(TableBar(None, 6, -2), EXAMPLE, Place(2, 3, 4)), False)
        self.assertIs(table_bars(TableBar(None, 6, 0), EXAMPLE, Place(2, 3, 6)), False)
        line = Table([Place(2, 4, 1)])
        self.assertIs(table_bars(TableBar(None, 0, -3), line, Place(2, 4, -2)), True)
        self.assertIs(table_bars(TableBar(None, 0, 3), line, Place(2, 4, -2)), False)
        self.assertIs(table_bars(TableBar(None, 0, 0), line, Place(2, 4, 1)), False)

    def test_wrong_moduli_and_remains(self):
        place = Place(1, 3, 0)
        for modulus in (-2, -1, None, True, "2", (2,)):
            for remains in (1, -1):
                self.assertIs(table_bars(TableBar((1, 0), modulus, remains), EXAMPLE, place), False)
                self.assertIs(table_bars(TableBar(None, modulus, remains), EXAMPLE, place), False)
        for remains in (None, True, "1", [1], 3, -1):
            self.assertIs(table_bars(TableBar((1, 0), 2, remains), EXAMPLE, place), False)

    def test_bars_are_equal_only_to_themselves(self):
        bar, other = TableBar((1, 0), 2, 1), TableBar((1, 0), 2, 1)
        self.assertTrue(bar == bar)
        self.assertFalse(bar == other)
        self.assertEqual(vars(bar), vars(other))

    def test_bars_copy_their_form(self):
        form = [1, 0]
        bar = TableBar(form, 2, 1)
        form[0] = 5
        self.assertEqual(bar.form, (1, 0))
        self.assertEqual(vars(TableBar(remains=3, modulus=4, form=None)), {"form": None, "modulus": 4, "remains": 3})


if __name__ == "__main__":
    unittest.main()
