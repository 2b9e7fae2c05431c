"""Promises 2, 12, 20, 21, 48 and 61: what told places make forward, and recipes without powers below 0."""

import itertools
import math
import random
import unittest

from areawalks.errors import BadPlace, OneSided, TooMany
from areawalks.forwards import Forward
from areawalks.places import Place, home_place
from areawalks.recipes import brewed
from areawalks.tables import Table
from tests.samples import HUGE, assert_raises, figures_of, no_places
from tests.table_samples import box, places_of, random_place, some_members

TRIANGLE = [(1, 0, 0), (0, 1, 0), (-1, -1, 0)]
AROUND = [
    TRIANGLE, [(1, 0, 0), (0, 1, 0), (-1, 0, 0), (0, -1, 0)], [(0, -1, 5), (-1, 0, 2), (0, 1, -9), (1, 0, 0)],
    [(2, 0, 1), (0, 3, 0), (-2, 0, 0), (0, -3, 4), (0, 0, 7)], [(3, 1, 0), (-1, 2, 5), (-1, -4, 0)],
    [(0, 0, 5), (0, 0, -3), (2, 2, 1), (-2, 2, 0), (0, -4, 9)], [(4, 2, 0), (-4, -2, 100), (1, 3, 0), (-1, -3, -200)],
    [(1, 0, 10), (1, 0, -10), (0, 1, 3), (0, 2, 0), (-1, -1, 50), (-5, 2, 1), (3, -7, 0), (0, 0, 0)],
    [(1, 0, 900), (0, 1, 0), (-1, -1, 5)], [(1, 0, -900), (0, 1, 0), (-1, -1, 5)], [(5, 0, 0), (-5, 1, 0), (-5, -1, 0)],
    [(6, 0, 1), (0, 10, 1), (-15, -15, 1)]]
ONE_SIDED = [
    [], [(0, 0, 0)], [(0, 0, 3), (0, 0, -3)], [(1, 0, 0)], [(1, 0, 0), (0, 1, 0)], [(1, 0, 0), (-1, 0, 0)],
    [(2, 4, 0), (-1, -2, 7), (0, 0, 1)], [(1, 0, 0), (-1, 0, 0), (0, 1, 0)], [(1, 0, 0), (-1, 0, 0), (3, -1, 0)],
    [(1, 2, 0), (2, 1, 0), (5, 5, 5), (3, 1, 1), (1, 3, 0), (1, 1, 1), (4, 5, 6), (0, 0, -1)],
    [(1, 5, 0), (-1, -4, 0)], [(0, -3, 0)], [(0, 0, 1), (-1, 0, 0)], [(0, 0, 1), (-2, 1, 0), (-2, -1, 0)],
    [(-1, 1, 0), (1, -1, 0), (1, 1, 0), (2, 2, 2)]]


def forward(points):
    return Forward(places_of(points))


def random_forwards(number):
    chance = random.Random(11)
    return [
        Forward([random_place(chance, chance.choice((1, 2, 6))) for _ in range(chance.choice((3, 3, 4, 5, 8)))])
        for _ in range(number)]


def slowly_around(places):
    """Whether each direction of a great star has an end strictly before it: forms enough for small ends."""
    forms = [(f, g) for f, g in itertools.product(range(-13, 14), repeat=2) if math.gcd(f, g) == 1]
    return all(any(f * place.x + g * place.y > 0 for place in places) for f, g in forms)


class ForwardTest(unittest.TestCase):
    def check_sides(self, made):
        """The attributes fit together, and the wheel and the half are as promised."""
        self.assertIs(made.around, made.wheel is not None)
        self.assertIs(made.around, made.half is None)
        if made.around:
            self.assertIsInstance(made.wheel, tuple)
            self.assertIn(len(made.wheel), (3, 4))
            spokes = [made.told[at] for at in made.wheel]
            for place, behind in zip(spokes, spokes[1:] + spokes[:1]):
                self.assertGreater(place.twist(behind), 0)
            self.assertEqual(len(set(made.wheel)), len(made.wheel))
        else:
            f, g = made.half
            self.assertIsInstance(made.half, tuple)
            self.assertNotEqual((f, g), (0, 0))
            self.assertGreaterEqual(min([f * place.x + g * place.y for place in made.told], default=0), 0)

    def check_recipe(self, made, place):
        """The recipe makes the place out of the told ones without any power below 0."""
        recipe, number = made.recipe_of(place)
        self.assertIsInstance(recipe, tuple)
        first = len(made.told) + 1
        for own, (front, times, behind) in enumerate(recipe, first):
            self.assertGreaterEqual(times, 0)
            self.assertTrue(0 <= front < own and 0 <= behind < own)
        self.assertEqual(brewed(made.told, recipe)[number], place)

    def test_examples(self):
        made = forward(TRIANGLE)
        self.assertIs(made.around, True)
        self.assertIs(made.has(Place(-5, 7, 3)), True)
        recipe, number = made.recipe_of(Place(0, 0, -1))
        self.assertEqual(brewed(made.told, recipe)[number], Place(0, 0, -1))
        sided = Forward([Place(1, 0, 0), Place(0, 1, 0)])
        self.assertIs(sided.around, False)
        assert_raises(self, OneSided, {"form": sided.half}, sided.has, Place(1, 1, 0))

    def test_sides(self):
        for points in AROUND:
            made = forward(points)
            self.assertIs(made.around, True)
            self.check_sides(made)
        for points in ONE_SIDED:
            made = forward(points)
            self.assertIs(made.around, False)
            self.check_sides(made)

    def test_sides_of_chance_places(self):
        seen = {True: 0, False: 0}
        for made in random_forwards(400):
            self.check_sides(made)
            self.assertIs(made.around, slowly_around(made.told))
            seen[made.around] += 1
        self.assertGreater(min(seen.values()), 50)

    def test_wheels(self):
        self.assertEqual(sorted(forward(TRIANGLE).wheel), [0, 1, 2])
        self.assertEqual(sorted(forward(AROUND[1]).wheel), [0, 1, 2, 3])
        self.assertEqual(sorted(forward(AROUND[6]).wheel), [0, 1, 2, 3])
        for points in AROUND:
            made = forward(points)
            self.assertTrue(Forward([made.told[at] for at in made.wheel]).around)

    def test_told(self):
        told = places_of(TRIANGLE)
        made = Forward(told)
        told.clear()
        self.assertEqual(made.told, tuple(places_of(TRIANGLE)))
        self.assertEqual(Forward(tuple(places_of(TRIANGLE))).told, made.told)

    def test_table(self):
        for points in AROUND + ONE_SIDED:
            self.assertEqual(forward(points).table(), Table(places_of(points)))
            self.assertEqual(forward(points).table().told, tuple(places_of(points)))

    def test_has(self):
        for points in AROUND:
            made = forward(points)
            table = Table(places_of(points))
            for place in box(3, 2)[::7] + some_members(table)[::9]:
                self.assertIs(made.has(place), place in table)

    def test_products_are_made(self):
        chance = random.Random(12)
        for points in AROUND:
            made = forward(points)
            place = home_place()
            for _ in range(12):
                place = place * chance.choice(made.told)
                self.assertIs(made.has(place), True)
                self.check_recipe(made, place)

    def test_recipes(self):
        for made in [forward(points) for points in AROUND] + random_forwards(60):
            if made.around:
                for place in some_members(made.table())[::7] + [home_place()] + [~told for told in made.told]:
                    self.check_recipe(made, place)
                for place in box(2, 2)[::11]:
                    if made.has(place):
                        self.check_recipe(made, place)
                    else:
                        self.assertIsNone(made.recipe_of(place))

    def test_not_made(self):
        made = forward([(2, 0, 0), (0, 2, 0), (-2, -2, 0)])
        self.assertEqual(made.table().home, 4)
        for place in (Place(1, 0, 0), Place(0, 0, 2), Place(2, 2, 1)):
            self.assertIs(made.has(place), False)
            self.assertIsNone(made.recipe_of(place))

    def test_great_numbers(self):
        chance = random.Random(13)
        for count in (3, 4, 8):
            made = None
            while made is None or not made.around:
                made = Forward([random_place(chance, HUGE) for _ in range(count)])
            self.check_sides(made)
            table = made.table()
            for place in (some_members(table)[5], some_members(table)[-1], ~made.told[0], Place(0, 0, -table.home)):
                self.assertIs(made.has(place), True)
                self.check_recipe(made, place)
            self.assertIs(made.has(Place(HUGE, 1, 0)), Place(HUGE, 1, 0) in table)
        far = forward([(HUGE, 0, HUGE), (0, HUGE, -HUGE), (-HUGE, 0, 0), (0, -HUGE, 0)])
        self.assertEqual(len(far.wheel), 4)
        self.check_recipe(far, Place(0, 0, -far.table().home))
        narrow = forward([(HUGE, 1, 0), (-HUGE, -1, 0), (HUGE + 1, 1, 0), (-1, 0, 0)])
        self.check_sides(narrow)
        self.assertIs(narrow.around, True)
        self.assertIs(forward([(HUGE, 1, 0), (-HUGE, -1, 0), (HUGE + 1, 1, 0)]).around, False)

    def test_one_sided(self):
        for points in ONE_SIDED:
            made = forward(points)
            for call in (made.has, made.recipe_of):
                assert_raises(self, OneSided, {"form": made.half}, call, home_place())
                for value in no_places()[::3]:
                    assert_raises(self, BadPlace, {"value": value}, call, value)

    def test_most(self):
        places = places_of(TRIANGLE * 3)
        self.assertEqual(len(Forward(places[:8]).told), 8)
        assert_raises(self, TooMany, {"most": 8}, Forward, places)
        for value in no_places():
            assert_raises(self, BadPlace, {"value": value}, Forward, places + [value, None])

    def test_wrong_places(self):
        made = forward(TRIANGLE)
        for value in no_places():
            assert_raises(self, BadPlace, {"value": value}, Forward, [home_place(), value, None])
            assert_raises(self, BadPlace, {"value": value}, made.has, value)
            assert_raises(self, BadPlace, {"value": value}, made.recipe_of, value)

    def test_equal_to_itself_alone(self):
        self.assertNotEqual(forward(TRIANGLE), forward(TRIANGLE))
        self.assertEqual([figures_of(place) for place in forward(TRIANGLE).told], TRIANGLE)


if __name__ == "__main__":
    unittest.main()
