"""Promises 2, 3, 40 and 61: places."""

import itertools
import unittest

from areawalks.errors import BadNumber, BadPlace
from areawalks.places import Place, home_place, product_of
from areawalks.tables import Table
from areawalks.walks import Walk
from tests.samples import HUGE, assert_raises, end_of, figures_of, no_integers, no_places

SOME = [Place(*point) for point in itertools.product((-2, 0, 3), (-1, 0, 2), (-4, 0, 5))]
VAST = [Place(HUGE, -HUGE, HUGE), Place(-3, HUGE * 7, 0), Place(0, -HUGE, -HUGE)]


class PlaceTest(unittest.TestCase):
    def test_attributes(self):
        place = Place(1, -2, HUGE)
        self.assertEqual(figures_of(place), (1, -2, HUGE))
        self.assertEqual(figures_of(Place(area=3, y=2, x=1)), (1, 2, 3))

    def test_equal_by_value(self):
        self.assertTrue(Place(1, 2, 3) == Place(1, 2, 3))
        self.assertFalse(Place(1, 2, 3) != Place(1, 2, 3))
        for other in (Place(0, 2, 3), Place(1, 0, 3), Place(1, 2, 0), (1, 2, 3), [1, 2, 3], None, 1, "Place"):
            self.assertFalse(Place(1, 2, 3) == other)
            self.assertTrue(Place(1, 2, 3) != other)
        self.assertFalse(Place(1, 1, 1) == Walk("en"))
        self.assertFalse(Walk("en") == Place(1, 1, 1))
        self.assertFalse(Place(0, 0, 0) == Table([]))

    def test_wrong_numbers(self):
        for value in no_integers():
            assert_raises(self, BadNumber, {"value": value}, Place, value, 0, 0)
            assert_raises(self, BadNumber, {"value": value}, Place, 0, value, 0)
            assert_raises(self, BadNumber, {"value": value}, Place, 0, 0, value)
            assert_raises(self, BadNumber, {"value": value}, Place, value, "second", None)
            assert_raises(self, BadNumber, {"value": value}, Place, 0, value, "third")
            assert_raises(self, BadNumber, {"value": value}, Place, area="third", y="second", x=value)

    def test_each_step(self):
        here = Place(5, 7, 11)
        self.assertEqual(figures_of(here * Place(1, 0, 0)), (6, 7, 11))
        self.assertEqual(figures_of(here * Place(0, 1, 0)), (5, 8, 16))
        self.assertEqual(figures_of(here * Place(-1, 0, 0)), (4, 7, 11))
        self.assertEqual(figures_of(here * Place(0, -1, 0)), (5, 6, 6))

    def test_examples_of_products(self):
        east, north = Place(1, 0, 0), Place(0, 1, 0)
        self.assertEqual(figures_of(east * north), (1, 1, 1))
        self.assertEqual(figures_of(north * east), (1, 1, 0))

    def test_products_are_walks_one_behind_the_other(self):
        for one, other in (("enwws", "nne"), ("sswen", "wwsne"), ("", "en"), ("en", ""), ("wwnn", "eess")):
            product = Place(*end_of(one)) * Place(*end_of(other))
            self.assertEqual(figures_of(product), end_of(one + other))

    def test_products_in_any_brackets(self):
        for one, other, third in itertools.product(SOME[::4], repeat=3):
            self.assertEqual(figures_of((one * other) * third), figures_of(one * (other * third)))

    def test_products_with_what_is_no_place(self):
        for value in no_places():
            assert_raises(self, BadPlace, {"value": value}, lambda given: Place(1, 2, 3) * given, value)

    def test_way_back(self):
        self.assertEqual(figures_of(~Place(1, 1, 1)), (-1, -1, 0))
        self.assertEqual(figures_of(~Place(HUGE, 2, 5)), (-HUGE, -2, 2 * HUGE - 5))
        for place in SOME + VAST:
            self.assertTrue((place * ~place).is_home())
            self.assertTrue((~place * place).is_home())
            self.assertEqual(~~place, place)

    def test_powers(self):
        self.assertEqual(figures_of(Place(1, 1, 1).power(3)), (3, 3, 6))
        for place in SOME + VAST:
            product, back = home_place(), home_place()
            for number in range(6):
                self.assertEqual(figures_of(place.power(number)), figures_of(product))
                self.assertEqual(figures_of(place.power(-number)), figures_of(back))
                product, back = product * place, back * ~place

    def test_great_powers(self):
        self.assertEqual(
            figures_of(Place(2, 3, 5).power(HUGE)), (2 * HUGE, 3 * HUGE, 5 * HUGE + 3 * HUGE * (HUGE - 1)))
        for place in VAST:
            self.assertEqual(place.power(HUGE) * place.power(-HUGE), home_place())
            self.assertEqual(place.power(HUGE) * place, place.power(HUGE + 1))
            self.assertEqual(place.power(-HUGE), (~place).power(HUGE))

    def test_powers_of_what_is_no_number(self):
        for value in no_integers():
            assert_raises(self, BadNumber, {"value": value}, Place(1, 2, 3).power, value)

    def test_is_home(self):
        self.assertIs(Place(0, 0, 0).is_home(), True)
        for place in (Place(1, 0, 0), Place(0, -1, 0), Place(0, 0, 1), Place(0, 0, -HUGE)):
            self.assertIs(place.is_home(), False)

    def test_lifted(self):
        self.assertEqual(figures_of(Place(1, 2, 3).lifted(4)), (1, 2, 7))
        self.assertEqual(figures_of(Place(1, 2, 3).lifted(-HUGE)), (1, 2, 3 - HUGE))
        storey = Place(0, 0, 1)
        for place in SOME + VAST:
            self.assertEqual(place.lifted(1), place * storey)
            self.assertEqual(place.lifted(1), storey * place)
            self.assertEqual(place.lifted(0), place)

    def test_lifted_by_what_is_no_number(self):
        for value in no_integers():
            assert_raises(self, BadNumber, {"value": value}, Place(1, 2, 3).lifted, value)

    def test_twist(self):
        self.assertEqual(Place(2, 1, 0).twist(Place(0, 3, 5)), 6)
        for one, other in itertools.product(SOME + VAST, repeat=2):
            self.assertEqual((one * other).area - (other * one).area, one.twist(other))
            self.assertEqual(one.twist(other), -other.twist(one))

    def test_twist_with_what_is_no_place(self):
        for value in no_places():
            assert_raises(self, BadPlace, {"value": value}, Place(1, 2, 3).twist, value)

    def test_nothing_is_changed(self):
        place, other = Place(1, 2, 3), Place(4, 5, 6)
        place * other, ~place, place.power(3), place.lifted(2), place.twist(other), place.is_home()
        self.assertEqual(figures_of(place), (1, 2, 3))
        self.assertEqual(figures_of(other), (4, 5, 6))


class ProductOfTest(unittest.TestCase):
    def test_home_place(self):
        self.assertEqual(figures_of(home_place()), (0, 0, 0))

    def test_product_of(self):
        self.assertEqual(figures_of(product_of([])), (0, 0, 0))
        self.assertEqual(figures_of(product_of(())), (0, 0, 0))
        told = [Place(1, 0, 0), Place(0, 2, 5), Place(-3, 1, 0)]
        self.assertEqual(product_of(told), told[0] * told[1] * told[2])
        self.assertEqual(product_of(tuple(told)), product_of(told))
        self.assertEqual(len(told), 3)
        self.assertEqual(figures_of(product_of([Place(1, 1, 1)] * 1000)), figures_of(Place(1, 1, 1).power(1000)))

    def test_first_wrong_place(self):
        for value in no_places():
            assert_raises(self, BadPlace, {"value": value}, product_of, [value])
            assert_raises(self, BadPlace, {"value": value}, product_of, [Place(1, 0, 0), value, "later"])
            assert_raises(self, BadPlace, {"value": value}, product_of, (value, Place(1, 0, 0), None))


if __name__ == "__main__":
    unittest.main()
