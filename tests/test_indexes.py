"""Promises 2, 19, 47 and 61: the tables of an index, and how many there are."""

import itertools
import unittest

from areawalks.errors import BadNumber, TooFar, TooMany
from areawalks.indexes import count_tables, tables_of
from areawalks.places import Place
from areawalks.tables import Table
from tests.samples import HUGE, assert_raises, figures_of, no_whole_numbers
from tests.table_samples import check_ledge, check_made


def slow_figures(index, normal):
    """The figures (p, q, r, s, t, c) of all tables of an index, by trying all."""
    found = []
    sizes = range(1, index + 1)
    for across, up in itertools.product(sizes, repeat=2):
        home, left = divmod(index, across * up)
        if left != 0 or across * up % home != 0:
            continue
        for slant in range(up):
            if not normal or across % home == slant % home == up % home == 0:
                areas = itertools.product(range(home), repeat=2)
                found.extend((across, slant, low, up, high, home) for low, high in areas)
    return found


def figures_of_table(table):
    first, second = table.ledge
    return first.x, first.y, first.area, second.y, second.area, table.home


def divisor_sum(number):
    return sum(part for part in range(1, number + 1) if number % part == 0)


class CountTest(unittest.TestCase):
    def test_examples(self):
        self.assertEqual([count_tables(2), count_tables(4), count_tables(4, normal=True)], [3, 19, 7])

    def test_index_one(self):
        self.assertEqual([count_tables(1), count_tables(1, normal=True)], [1, 1])
        self.assertEqual(tables_of(1), [Table([Place(1, 0, 0), Place(0, 1, 0)])])

    def test_by_trying_all(self):
        for index in list(range(1, 50)) + [64, 72, 81]:
            for normal in (False, True):
                self.assertEqual(count_tables(index, normal=normal), len(slow_figures(index, normal)))

    def test_sums_over_home_numbers(self):
        for index in [216, 243, 500, 720, 997, 1000, 1024, 2310, 2401, 4096, 5040, 30030]:
            homes = range(1, index + 1)
            self.assertEqual(
                count_tables(index), sum(c * c * divisor_sum(index // c) for c in homes if index % (c * c) == 0))
            self.assertEqual(
                count_tables(index, normal=True),
                sum(c * c * divisor_sum(index // c ** 3) for c in homes if index % c ** 3 == 0))

    def test_far_indexes(self):
        self.assertEqual(count_tables(999983), 999984)
        self.assertEqual(count_tables(994009), 997 + 1 + 994009 + 997 ** 2 * 998)
        self.assertEqual(count_tables(994009, normal=True), 997 + 1 + 994009)
        index = 1000000
        homes = [c for c in range(1, 1001) if index % (c * c) == 0]
        self.assertEqual(count_tables(index), sum(c * c * divisor_sum(index // c) for c in homes))
        self.assertEqual(
            count_tables(index, normal=True),
            sum(c * c * divisor_sum(index // c ** 3) for c in homes if index % c ** 3 == 0))

    def test_too_far(self):
        for index in (1000001, 2 * 10 ** 6, HUGE):
            for normal in (False, True):
                assert_raises(self, TooFar, {"number": index}, count_tables, index, normal=normal)
                assert_raises(self, TooFar, {"number": index}, tables_of, index, normal=normal, most=0)

    def test_wrong_indexes(self):
        for value in no_whole_numbers() + [0]:
            assert_raises(self, BadNumber, {"value": value}, count_tables, value)
            assert_raises(self, BadNumber, {"value": value}, count_tables, value, normal=True)
            assert_raises(self, BadNumber, {"value": value}, tables_of, value)
            assert_raises(self, BadNumber, {"value": value}, tables_of, value, normal=True, most=0)


class TablesTest(unittest.TestCase):
    def test_by_trying_all(self):
        for index in range(1, 37):
            for normal in (False, True):
                tables = tables_of(index, normal=normal, most=100000)
                self.assertIsInstance(tables, list)
                self.assertEqual(sorted(map(figures_of_table, tables)), sorted(slow_figures(index, normal)))

    def test_tables(self):
        for index in (1, 4, 8, 12, 16, 27, 36):
            for table in tables_of(index, most=2000)[::7]:
                check_ledge(self, table)
                check_made(self, table)
                self.assertEqual(table.cosets(), index)
            for table in tables_of(index, normal=True, most=2000):
                self.assertTrue(table.is_normal())
                self.assertEqual(table.moved(Place(1, 2, 3)), table)

    def test_none_but_normal_ones_is_left_out(self):
        for index in (8, 16, 27):
            normal = [table for table in tables_of(index, most=2000) if table.is_normal()]
            found = tables_of(index, normal=True, most=2000)
            self.assertEqual(sorted(map(figures_of_table, normal)), sorted(map(figures_of_table, found)))

    def test_most(self):
        for index, normal in ((1, False), (4, False), (4, True), (24, False), (8, True)):
            count = count_tables(index, normal=normal)
            self.assertEqual(len(tables_of(index, normal=normal, most=count)), count)
            assert_raises(self, TooMany, {"most": count - 1}, tables_of, index, normal=normal, most=count - 1)
            assert_raises(self, TooMany, {"most": 0}, tables_of, index, normal=normal, most=0)

    def test_most_by_itself(self):
        self.assertEqual(len(tables_of(499)), 500)
        assert_raises(self, TooMany, {"most": 500}, tables_of, 503)
        assert_raises(self, TooMany, {"most": 500}, tables_of, 1000000)
        assert_raises(self, TooMany, {"most": 500}, tables_of, 1000000, normal=True)

    def test_new_lists(self):
        tables_of(2).clear()
        self.assertEqual(len(tables_of(2)), 3)
        self.assertEqual(figures_of(tables_of(1)[0].ledge[0]), (1, 0, 0))


if __name__ == "__main__":
    unittest.main()
