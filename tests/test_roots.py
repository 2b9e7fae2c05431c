"""Promises 2, 23, 24, 50 and 61: roots, places in one direction, and powers of two places."""

import itertools
import math
import random
import unittest

from areawalks.errors import BadNumber, BadPlace, NoDirection, Still
from areawalks.places import Place, home_place
from areawalks.roots import along, figures_along, greatest_root, powers_to, root
from tests.samples import HUGE, assert_raises, figures_of, no_integers, no_places
from tests.table_samples import box, random_place

NUMBERS = [number for number in range(-7, 8) if number != 0]
REACH = 8


def figures_or_none(place):
    return None if place is None else figures_of(place)


def slow_root(place, number):
    """The root of a place with small numbers, by trying all areas."""
    if place.x % number or place.y % number:
        return None
    for area in range(-150, 151):
        found = Place(place.x // number, place.y // number, area)
        if found.power(number) == place:
            return found
    return None


class RootTest(unittest.TestCase):
    def test_by_trying_all(self):
        for place in box(4, 5):
            for number in NUMBERS:
                self.assertEqual(figures_or_none(root(place, number)), figures_or_none(slow_root(place, number)))

    def test_roots_of_powers(self):
        chance = random.Random(31)
        for _ in range(300):
            place, number = random_place(chance, 50), chance.choice(NUMBERS + [1000, -999])
            self.assertEqual(root(place.power(number), number), place)
            self.assertEqual(root(home_place(), number), home_place())
            if abs(number) > 1:
                self.assertIsNone(root(place.power(number).lifted(1), number))

    def test_odd_coordinates(self):
        self.assertEqual(root(Place(2, 2, 1), 2), Place(1, 1, 0))
        self.assertEqual(root(Place(2, 2, 3), 2), Place(1, 1, 1))
        self.assertIsNone(root(Place(2, 2, 0), 2))
        self.assertEqual(root(Place(4, 2, 2), 2), Place(2, 1, 0))

    def test_great_numbers(self):
        place = Place(HUGE, -HUGE + 2, 3 * HUGE)
        for number in (HUGE, -HUGE, HUGE - 1):
            self.assertEqual(root(place.power(number), number), place)
            self.assertIsNone(root(place.power(number).lifted(5), number))

    def test_wrong_values(self):
        for value in no_places():
            assert_raises(self, BadPlace, {"value": value}, root, value, 0)
        for value in no_integers() + [0]:
            assert_raises(self, BadNumber, {"value": value}, root, home_place(), value)


class GreatestRootTest(unittest.TestCase):
    def check(self, place):
        number, found = greatest_root(place)
        self.assertGreaterEqual(number, 1)
        self.assertEqual(found.power(number), place)
        return number, found

    def test_examples(self):
        for point, number, found in (
                ((4, 4, 4), 2, (2, 2, 0)), ((0, 0, -6), 6, (0, 0, -1)), ((2, 2, 1), 2, (1, 1, 0)),
                ((2, 2, 0), 1, (2, 2, 0))):
            self.assertEqual([greatest_root(Place(*point))[0], figures_of(greatest_root(Place(*point))[1])], [number, found])
        self.assertIsInstance(greatest_root(Place(4, 4, 4)), tuple)

    def test_just_its_divisors_have_roots(self):
        for place in box(6, 7):
            if not place.is_home():
                number, found = self.check(place)
                for part in range(1, 16):
                    self.assertEqual(root(place, part) is not None, number % part == 0)
                    if number % part == 0:
                        self.assertEqual(root(place, part), found.power(number // part))

    def test_powers(self):
        for place in box(3, 3):
            if not place.is_home():
                number, found = self.check(place)
                for times in (2, 3, 6):
                    self.assertEqual(greatest_root(place.power(times)), (number * times, found))

    def test_great_numbers(self):
        self.assertEqual(greatest_root(Place(0, 0, HUGE)), (HUGE, Place(0, 0, 1)))
        self.assertEqual(greatest_root(Place(1, 1, 1).power(2 * HUGE)), (2 * HUGE, Place(1, 1, 1)))
        self.assertEqual(greatest_root(Place(HUGE, 1, -HUGE)), (1, Place(HUGE, 1, -HUGE)))

    def test_wrong_places(self):
        assert_raises(self, Still, {}, greatest_root, home_place())
        for value in no_places():
            assert_raises(self, BadPlace, {"value": value}, greatest_root, value)


class AlongTest(unittest.TestCase):
    def test_directions(self):
        for place in box(6, 1):
            if (place.x, place.y) != (0, 0):
                common = math.gcd(place.x, place.y)
                self.assertEqual(figures_of(along(place)), (place.x // common, place.y // common, 0))
        self.assertEqual(along(Place(-6 * HUGE, 4 * HUGE, 5)), Place(-3, 2, 0))

    def test_figures(self):
        for place, other in itertools.product(box(2, 1), box(3, 2)):
            if (place.x, place.y) != (0, 0):
                figures = figures_along(place, other)
                self.assertIs(figures is None, place.twist(other) != 0)
                if figures is not None:
                    self.assertIsInstance(figures, tuple)
                    self.assertEqual(along(place).power(figures[0]).lifted(figures[1]), other)

    def test_figures_of_great_numbers(self):
        place = Place(2 * HUGE, -3 * HUGE, 7)
        other = Place(2, -3, 0).power(-HUGE).lifted(HUGE)
        self.assertEqual(figures_along(place, other), (-HUGE, HUGE))
        self.assertIsNone(figures_along(place, Place(2 * HUGE, -3 * HUGE + 1, 7)))
        self.assertEqual(figures_along(place, Place(0, 0, HUGE)), (0, HUGE))

    def test_no_direction(self):
        for area in (0, 5, -HUGE):
            assert_raises(self, NoDirection, {}, along, Place(0, 0, area))
            assert_raises(self, NoDirection, {}, figures_along, Place(0, 0, area), Place(1, 2, 3))
            assert_raises(self, NoDirection, {}, figures_along, Place(0, 0, area), home_place())

    def test_wrong_places(self):
        for value in no_places():
            assert_raises(self, BadPlace, {"value": value}, along, value)
            assert_raises(self, BadPlace, {"value": value}, figures_along, value, None)
            assert_raises(self, BadPlace, {"value": value}, figures_along, home_place(), value)
            assert_raises(self, BadPlace, {"value": value}, figures_along, Place(1, 0, 0), value)


class PowersToTest(unittest.TestCase):
    def check_form(self, found):
        """The one form in which all pairs are told."""
        start, steps = found
        self.assertIsInstance(found, tuple)
        self.assertIsInstance(start, tuple)
        self.assertIsInstance(steps, list)
        if len(steps) == 2:
            self.assertEqual((start, steps), ((0, 0), [(1, 0), (0, 1)]))
        if len(steps) == 1:
            i, j = steps[0]
            self.assertTrue((i > 0 and 0 <= start[0] < i) or (i == 0 and j > 0 and 0 <= start[1] < j))

    def near_pairs(self, found):
        """All pairs within reach that the answer tells."""
        if found is None:
            return set()
        start, steps = found
        self.check_form(found)
        sizes = range(-5 * REACH, 5 * REACH + 1)
        pairs = {start}
        for step in steps:
            pairs = {(m + k * step[0], n + k * step[1]) for m, n in pairs for k in sizes}
        return {(m, n) for m, n in pairs if max(abs(m), abs(n)) <= REACH}

    def check_all(self, one, other, goal):
        sizes = range(-REACH, REACH + 1)
        slow = {pair for pair in itertools.product(sizes, repeat=2) if one.power(pair[0]) * other.power(pair[1]) == goal}
        found = powers_to(one, other, goal)
        self.assertEqual(self.near_pairs(found), slow)
        if found is not None:
            self.assertEqual(one.power(found[0][0]) * other.power(found[0][1]), goal)
        return found

    def test_examples(self):
        one, other = Place(1, 0, 0), Place(0, 1, 0)
        self.assertEqual(powers_to(one, other, Place(3, 4, 12)), ((3, 4), []))
        self.assertIsNone(powers_to(one, other, Place(3, 4, 11)))
        self.assertEqual(powers_to(Place(2, 0, 0), Place(3, 0, 0), Place(1, 0, 0)), ((2, -1), [(3, -2)]))

    def test_by_trying_all(self):
        chance = random.Random(32)
        seen = [0, 0, 0, 0]
        for _ in range(500):
            one, other = random_place(chance, 3), random_place(chance, 3)
            if chance.random() < 0.6:
                unit = Place(*chance.choice([(1, 0), (0, 1), (1, 1), (2, -3), (-1, 2)]), 0)
                one, other = [unit.power(chance.randint(-3, 3)).lifted(chance.randint(-2, 2)) for _ in range(2)]
            goal = one.power(chance.randint(-4, 4)) * other.power(chance.randint(-4, 4))
            if chance.random() < 0.4:
                goal = goal * random_place(chance, 1)
            found = self.check_all(one, other, goal)
            seen[3 if found is None else len(found[1])] += 1
        self.assertGreater(min(seen[0], seen[1], seen[3]), 20)

    def test_over_home(self):
        home = home_place()
        self.assertEqual(self.check_all(home, home, home), ((0, 0), [(1, 0), (0, 1)]))
        self.assertIsNone(self.check_all(home, home, Place(0, 0, 1)))
        self.assertEqual(self.check_all(Place(0, 0, 4), Place(0, 0, 6), Place(0, 0, 2)), ((2, -1), [(3, -2)]))
        self.assertIsNone(self.check_all(Place(0, 0, 4), Place(0, 0, 6), Place(0, 0, 3)))
        self.assertEqual(self.check_all(Place(0, 0, 4), home, Place(0, 0, -8)), ((-2, 0), [(0, 1)]))
        self.assertEqual(self.check_all(home, Place(0, 0, 4), Place(0, 0, -8)), ((0, -2), [(1, 0)]))
        self.assertIsNone(self.check_all(Place(0, 0, 4), Place(0, 0, 6), Place(1, 0, 2)))
        self.assertIsNone(self.check_all(home, home, Place(0, 1, 0)))

    def test_one_direction(self):
        self.assertEqual(self.check_all(Place(2, 0, 0), Place(0, 0, 5), Place(6, 0, -10)), ((3, -2), []))
        self.assertEqual(self.check_all(Place(0, 0, 5), Place(2, 0, 0), Place(6, 0, -10)), ((-2, 3), []))
        self.assertIsNone(self.check_all(Place(2, 0, 0), Place(3, 0, 0), Place(1, 0, 1)))
        self.assertIsNone(self.check_all(Place(2, 0, 0), Place(3, 0, 0), Place(1, 1, 0)))
        self.assertEqual(self.check_all(Place(2, 2, 1), Place(-1, -1, 1), home_place()), ((0, 0), [(1, 2)]))
        self.assertEqual(self.check_all(Place(0, 3, 0), Place(0, -3, 0), Place(0, 3, 0)), ((0, -1), [(1, 1)]))
        self.assertEqual(self.check_all(home_place(), Place(5, 1, 2), home_place()), ((0, 0), [(1, 0)]))
        self.assertEqual(self.check_all(Place(5, 1, 2), home_place(), home_place()), ((0, 0), [(0, 1)]))

    def test_goals_just_beside(self):
        one, other = Place(3, 1, 2), Place(1, 2, 0)
        goal = one.power(5) * other.power(-7)
        self.assertEqual(powers_to(one, other, goal), ((5, -7), []))
        for beside in (goal.lifted(1), goal.lifted(-1), goal * Place(1, 0, 0), goal * Place(0, -1, 0)):
            self.assertIsNone(powers_to(one, other, beside))

    def test_great_numbers(self):
        one, other = Place(HUGE, 3, -HUGE), Place(-5, HUGE, 1)
        goal = one.power(HUGE + 1) * other.power(-HUGE)
        self.assertEqual(powers_to(one, other, goal), ((HUGE + 1, -HUGE), []))
        self.assertIsNone(powers_to(one, other, goal.lifted(1)))
        one, other = Place(3, 6, 0).power(HUGE), Place(1, 2, 0).power(2 * HUGE + 1)
        found = powers_to(one, other, one.power(-HUGE) * other.power(7))
        self.check_form(found)
        self.assertEqual(one.power(found[0][0]) * other.power(found[0][1]), one.power(-HUGE) * other.power(7))

    def test_equal_calls(self):
        found = powers_to(Place(2, 0, 0), Place(3, 0, 0), Place(1, 0, 0))
        found[1].clear()
        self.assertEqual(powers_to(Place(2, 0, 0), Place(3, 0, 0), Place(1, 0, 0))[1], [(3, -2)])

    def test_wrong_places(self):
        for value in no_places():
            assert_raises(self, BadPlace, {"value": value}, powers_to, value, "other", None)
            assert_raises(self, BadPlace, {"value": value}, powers_to, home_place(), value, None)
            assert_raises(self, BadPlace, {"value": value}, powers_to, Place(1, 0, 0), Place(0, 1, 0), value)


if __name__ == "__main__":
    unittest.main()
