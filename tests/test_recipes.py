"""Promises 2, 12, 44 and 61: recipes."""

import unittest

from areawalks.errors import BadPlace
from areawalks.places import Place
from areawalks.recipes import brewed
from tests.samples import HUGE, assert_raises, figures_of, no_places


class BrewedTest(unittest.TestCase):
    def test_example(self):
        places = brewed([Place(2, 0, 0), Place(0, 3, 0)], [(1, 1, 2), (3, -1, 1)])
        self.assertEqual(
            [figures_of(place) for place in places], [(0, 0, 0), (2, 0, 0), (0, 3, 0), (2, 3, 6), (0, 3, 6)])

    def test_nothing_told(self):
        self.assertEqual([figures_of(place) for place in brewed([], [])], [(0, 0, 0)])
        self.assertEqual([figures_of(place) for place in brewed((), [(0, 5, 0)])], [(0, 0, 0), (0, 0, 0)])

    def test_lines_of_all_numbers(self):
        told = [Place(1, 2, 3), Place(-4, 0, 5), Place(0, 1, 0)]
        lines = [(1, 3, 2), (0, -1, 4), (5, 0, 1), (4, 1, 4), [3, -2, 7]]
        places = brewed(told, lines)
        expected = [Place(0, 0, 0), *told]
        expected.append(told[0] * told[1].power(3))
        expected.append(~expected[4])
        expected.append(expected[5])
        expected.append(expected[4] * expected[4])
        expected.append(told[2] * expected[7].power(-2))
        self.assertEqual(places, expected)

    def test_great_numbers(self):
        places = brewed([Place(HUGE, 1, 0), Place(1, HUGE, -HUGE)], [(1, HUGE, 2), (3, -HUGE, 1)])
        self.assertEqual(places[3], Place(HUGE, 1, 0) * Place(1, HUGE, -HUGE).power(HUGE))
        self.assertEqual(places[4], places[3] * Place(HUGE, 1, 0).power(-HUGE))

    def test_tuples_and_new_lists(self):
        told, recipe = (Place(1, 0, 0), Place(0, 1, 0)), ((1, 1, 2),)
        places = brewed(told, recipe)
        self.assertIs(places.__class__, list)
        places.append(None)
        self.assertEqual(brewed(list(told), list(recipe)), places[:-1])

    def test_arguments_are_not_changed(self):
        told, recipe = [Place(1, 0, 0)], [(1, 1, 1)]
        places = brewed(told, recipe)
        places[1] = None
        self.assertEqual((told, recipe), ([Place(1, 0, 0)], [(1, 1, 1)]))

    def test_first_wrong_value(self):
        for value in no_places():
            assert_raises(self, BadPlace, {"value": value}, brewed, [value], [])
            assert_raises(self, BadPlace, {"value": value}, brewed, [Place(1, 0, 0), value, "later"], [(1, 1, 1)])
            assert_raises(self, BadPlace, {"value": value}, brewed, told=(value, None), recipe=[(0, 1, 0)])


if __name__ == "__main__":
    unittest.main()
