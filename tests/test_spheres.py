"""Promises 2, 6, 8, 43 and 61: how many places and walks there are."""

import itertools
import unittest

from areawalks.errors import BadNumber, BadPlace, TooFar
from areawalks.least import areas, steps
from areawalks.places import Place, home_place
from areawalks.spheres import ball, least_walks, sphere, sphere_places, walks_to
from tests.samples import (
    HUGE, assert_raises, figures_of, listed_further, listed_steps, listed_walks, no_places, no_whole_numbers)

FEWEST = listed_steps(12)


def binomial(number, part):
    """How many choices of so many parts there are, for great numbers too."""
    product = 1
    for at in range(part):
        product = product * (number - at) // (at + 1)
    return product


def counted_areas(number):
    """How many places walks of so many steps lead to, square by square."""
    total = 0
    for x in range(-number, number + 1):
        for y in range(abs(x) - number, number - abs(x) + 1):
            bounds = areas(x, y, number)
            if bounds is not None:
                total += bounds[1] - bounds[0] + 1
    return total


class NumbersTest(unittest.TestCase):
    def test_examples(self):
        self.assertEqual([sphere(number) for number in range(8)], [1, 4, 12, 36, 82, 164, 294, 476])
        self.assertEqual(ball(2), 17)
        self.assertEqual([ball(0), ball(1)], [1, 5])

    def test_listed_places(self):
        numbers = list(FEWEST.values())
        for number in range(13):
            self.assertEqual(sphere(number), numbers.count(number))
            self.assertEqual(ball(number), len([other for other in numbers if other <= number]))

    def test_all_places_within_26_steps(self):
        numbers = [0] * 27
        for number in listed_steps(26).values():
            numbers[number] += 1
        self.assertEqual([sphere(number) for number in range(27)], numbers)
        self.assertEqual([ball(number) for number in range(27)], list(itertools.accumulate(numbers)))

    def test_counted_areas(self):
        # Four numbers for each remainder by 12 fix its polynomial; some are beyond them.
        for number in [*range(2, 62), 71, 72, 73, 84, 95]:
            count, before = counted_areas(number), counted_areas(number - 1)
            self.assertEqual(sphere(number), count - counted_areas(number - 2), number)
            self.assertEqual(ball(number), count + before, number)

    def test_balls_are_made_of_spheres(self):
        total = 0
        for number in range(200):
            total += sphere(number)
            self.assertEqual(ball(number), total)
        for number in range(HUGE, HUGE + 13):
            self.assertEqual(ball(number) - ball(number - 1), sphere(number))

    def test_polynomials_for_each_remainder(self):
        for first in range(2, 14):
            for start in (first, first + 12 * HUGE):
                row = [sphere(start + 12 * turn) for turn in range(8)]
                for _ in range(3):
                    row = [later - earlier for earlier, later in zip(row, row[1:])]
                self.assertEqual(len(set(row)), 1)
                self.assertNotEqual(row[0], 0)

    def test_great_numbers_by_counted_ones(self):
        for first in range(2, 14):
            row = [sphere(first + 12 * turn) for turn in range(4)]
            for turn in (9, HUGE):
                # Newton's differences lead from the counted numbers to all others.
                left, total = row, 0
                for order in range(4):
                    total += left[0] * binomial(turn, order)
                    left = [later - earlier for earlier, later in zip(left, left[1:])]
                self.assertEqual(sphere(first + 12 * turn), total)

    def test_great_numbers(self):
        for number in (HUGE, 10 ** 120 - 1, 12 * 10 ** 118):
            self.assertEqual(10 ** 60 * sphere(number) // number ** 3, 10 ** 60 * 31 // 18)

    def test_wrong_numbers(self):
        for call in (sphere, ball, sphere_places):
            for value in no_whole_numbers() + [-12]:
                assert_raises(self, BadNumber, {"value": value}, call, value)


class SpherePlacesTest(unittest.TestCase):
    def test_listed_places(self):
        self.assertEqual([figures_of(place) for place in sphere_places(0)], [(0, 0, 0)])
        for number in range(13):
            points = sorted(point for point, other in FEWEST.items() if other == number)
            self.assertEqual([figures_of(place) for place in sphere_places(number)], points)

    def test_the_most(self):
        places = sphere_places(20)
        points = [figures_of(place) for place in places]
        self.assertEqual(len(places), sphere(20))
        self.assertEqual(points, sorted(set(points)))
        self.assertEqual({steps(place) for place in places}, {20})

    def test_new_lists(self):
        places = sphere_places(1)
        places.append(None)
        self.assertEqual(len(sphere_places(1)), 4)

    def test_too_far(self):
        for number in (21, 22, HUGE):
            assert_raises(self, TooFar, {"number": number}, sphere_places, number)


class WalksToTest(unittest.TestCase):
    def test_examples(self):
        self.assertEqual(walks_to(home_place(), 4), 28)
        self.assertEqual(least_walks(Place(0, 0, 1)), 4)
        self.assertEqual(least_walks(Place(2, 2, 2)), 2)

    def test_listed_walks(self):
        for number in range(9):
            counts = listed_walks(number)
            for point in FEWEST:
                if FEWEST[point] < 7:
                    self.assertEqual(walks_to(Place(*point), number), counts.get(point, 0))

    def test_all_walks_of_the_most_steps(self):
        counts = listed_walks(20)
        for point in list(counts)[::800]:
            self.assertEqual(walks_to(Place(*point), 20), counts[point])
        self.assertEqual(walks_to(Place(0, 0, 25), 20), counts[0, 0, 25])
        self.assertEqual(sum(walks_to(place, 3) for place in sphere_places(3) + sphere_places(1)), 64)

    def test_home(self):
        self.assertEqual(walks_to(home_place(), 0), 1)
        self.assertEqual(walks_to(home_place(), 1), 0)
        self.assertEqual(walks_to(Place(0, 0, 1), 0), 0)
        self.assertEqual(least_walks(home_place()), 1)

    def test_walks_cut_in_two(self):
        ends = [((0, 0, 0), 8), ((1, -2, 1), 13), ((-3, 2, -4), 15), ((2, 4, 30), 20), ((-20, 0, 0), 20)]
        fronts = {(0, 0, 0): 1}
        for cut in range(21):
            for point, number in ends:
                if cut <= number and (number < 20 or cut < 9 or cut > 17):
                    whole = sum(
                        count * walks_to(~Place(*front) * Place(*point), number - cut)
                        for front, count in fronts.items())
                    self.assertEqual(walks_to(Place(*point), number), whole)
            fronts = listed_further(fronts)

    def test_turned_mirrored_and_walked_back(self):
        for point, number in (((0, 0, 1), 4), ((1, 2, 3), 9), ((3, -1, -5), 14), ((-2, -4, 20), 20), ((5, 0, 7), 13)):
            place = Place(*point)
            turned = Place(-place.y, place.x, place.area - place.x * place.y)
            mirrored = Place(-place.x, place.y, -place.area)
            self.assertGreater(walks_to(place, number), 0)
            for other in (~place, turned, mirrored):
                self.assertEqual(walks_to(other, number), walks_to(place, number))

    def test_no_walks(self):
        for number in range(21):
            self.assertEqual(walks_to(Place(number & 1 ^ 1, 0, 0), number), 0)
            self.assertEqual(walks_to(Place(number + 1, 0, 0), number), 0)
            self.assertEqual(walks_to(Place(number // 2, number - number // 2, number ** 2 // 4 + 1), number), 0)
            self.assertEqual(walks_to(Place(number // 2, number - number // 2, -1), number), 0)

    def test_places_far_away(self):
        self.assertEqual(walks_to(Place(HUGE, -HUGE, HUGE), 20), 0)

    def test_least_walks(self):
        for number in range(10):
            counts = listed_walks(number)
            for point, fewest in FEWEST.items():
                if fewest == number:
                    self.assertEqual(least_walks(Place(*point)), counts[point])
        self.assertEqual(least_walks(Place(20, 0, 0)), 1)
        self.assertEqual(least_walks(Place(0, 0, 25)), 20)

    def test_too_far(self):
        for number in (21, 22, HUGE):
            assert_raises(self, TooFar, {"number": number}, walks_to, home_place(), number)
        self.assertEqual(walks_to(Place(21, 0, 0), 20), 0)
        assert_raises(self, TooFar, {"number": 21}, least_walks, Place(21, 0, 0))
        assert_raises(self, TooFar, {"number": 22}, least_walks, Place(0, 0, 26))
        assert_raises(self, TooFar, {"number": 2 * HUGE}, least_walks, Place(HUGE, HUGE, HUGE))

    def test_wrong_values(self):
        for value in no_places():
            assert_raises(self, BadPlace, {"value": value}, walks_to, value, 4)
            assert_raises(self, BadPlace, {"value": value}, walks_to, value, -1)
            assert_raises(self, BadPlace, {"value": value}, walks_to, value, 21)
            assert_raises(self, BadPlace, {"value": value}, least_walks, value)
        for value in no_whole_numbers():
            assert_raises(self, BadNumber, {"value": value}, walks_to, home_place(), value)


if __name__ == "__main__":
    unittest.main()
