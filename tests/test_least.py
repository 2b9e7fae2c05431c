"""Promises 2, 5, 6, 7, 42 and 61: fewest steps, least walks, walks of a told length."""

import itertools
import unittest

from areawalks.errors import BadNumber, BadPlace
from areawalks.least import (
    areas, distance, first_letters, is_summit, least_walk, lies_between, nearer, steps, walk_of)
from areawalks.places import Place, home_place
from areawalks.walks import Walk
from tests.samples import (
    HUGE, STRIDES, assert_raises, figures_of, listed_steps, listed_walks, no_integers, no_places, no_whole_numbers,
    stepped)

FEWEST = listed_steps(11)
VAST = [
    Place(0, 0, HUGE), Place(0, 0, -HUGE), Place(HUGE, 0, 0), Place(0, -HUGE, HUGE * HUGE), Place(-HUGE, HUGE, 1),
    Place(HUGE, HUGE, HUGE * HUGE), Place(HUGE, HUGE, -1), Place(HUGE, 3, HUGE * HUGE + 1), Place(3, -HUGE, 5 * HUGE),
    Place(1, 0, HUGE * HUGE), Place(-7, -HUGE, HUGE ** 2 * 9 // 10), Place(HUGE // 3, HUGE, HUGE ** 2 // 2),
    Place(HUGE // 3, -HUGE, HUGE ** 2 // 2), Place(-HUGE // 3, HUGE, -HUGE ** 2 // 2), Place(HUGE, 2, -HUGE)]


class StepsTest(unittest.TestCase):
    def test_examples(self):
        self.assertEqual(steps(Place(0, 0, 10 ** 100)), 4 * 10 ** 50)
        self.assertEqual(steps(Place(0, 0, 5)), 10)
        self.assertEqual(steps(Place(0, 0, 0)), 0)

    def test_all_near_places(self):
        for point, number in FEWEST.items():
            self.assertEqual(steps(Place(*point)), number, point)

    def test_what_makes_a_function_steps(self):
        for place in VAST:
            number = steps(place)
            further = [steps(place * Place(across, up, 0)) for across, up in STRIDES.values()]
            self.assertEqual({abs(other - number) for other in further}, {1})
            self.assertLess(min(further), number)

    def test_squares_and_oblongs(self):
        for side in list(range(2, 40)) + [HUGE]:
            self.assertEqual(steps(Place(0, 0, side * side)), 4 * side)
            self.assertEqual(steps(Place(0, 0, side * side + 1)), 4 * side + 2)
            self.assertEqual(steps(Place(0, 0, side * (side + 1))), 4 * side + 2)
            self.assertEqual(steps(Place(0, 0, -side * (side + 1) - 1)), 4 * side + 4)

    def test_edges_of_the_three_cases(self):
        for longer, shorter in ((5, 3), (7, 1), (4, 0), (6, 6), (HUGE, 4), (HUGE, HUGE - 1)):
            flat, square = longer * shorter, longer * longer
            self.assertEqual(steps(Place(longer, shorter, flat)), longer + shorter)
            self.assertEqual(steps(Place(longer, shorter, 0)), longer + shorter)
            self.assertEqual(steps(Place(longer, shorter, flat + 1)), longer + shorter + 2)
            self.assertEqual(steps(Place(shorter, longer, -1)), longer + shorter + 2)
            self.assertEqual(steps(Place(longer, shorter, square)), 2 * longer + longer - shorter if shorter < longer
                             else longer + shorter)
            self.assertEqual(steps(Place(longer, shorter, square + 1)), 2 * (2 * longer + 1) - longer - shorter)

    def test_turns_and_mirrors(self):
        for place in VAST + [Place(3, -2, 7), Place(-5, 1, 0)]:
            turned = Place(-place.y, place.x, place.area - place.x * place.y)
            mirrored = Place(-place.x, place.y, -place.area)
            for other in (turned, mirrored, ~place):
                self.assertEqual(steps(other), steps(place))

    def test_wrong_values(self):
        for value in no_places():
            assert_raises(self, BadPlace, {"value": value}, steps, value)


class DistanceTest(unittest.TestCase):
    def test_from_home_and_back(self):
        for point, number in FEWEST.items():
            self.assertEqual(distance(home_place(), Place(*point)), number)
            self.assertEqual(distance(Place(*point), home_place()), number)

    def test_walks_between(self):
        spots = [Place(*point) for point in itertools.product((-2, 1), (0, 3), (-1, 4))]
        for one in spots:
            for letters in ("e", "nn", "enws", "wsse"):
                walk = Walk(letters)
                self.assertEqual(distance(one, one * walk.place()), len(letters))
        for one, other in itertools.product(spots, repeat=2):
            number = distance(one, other)
            self.assertEqual(number, distance(other, one))
            self.assertEqual(one * least_walk(~one * other).place(), other)
            self.assertEqual(least_walk(~one * other).length, number)

    def test_great_numbers(self):
        for one, other in itertools.product(VAST, repeat=2):
            self.assertEqual(distance(one, one * other), steps(other))

    def test_wrong_values(self):
        for value in no_places():
            assert_raises(self, BadPlace, {"value": value}, distance, value, Place(1, 0, 0))
            assert_raises(self, BadPlace, {"value": value}, distance, Place(1, 0, 0), value)
            assert_raises(self, BadPlace, {"value": value}, distance, value, "later")


class LeastWalkTest(unittest.TestCase):
    def assert_least(self, place):
        walk = least_walk(place)
        self.assertIsInstance(walk, Walk)
        self.assertEqual(figures_of(walk.place()), figures_of(place))
        self.assertEqual(walk.length, steps(place))
        self.assertLessEqual(len(walk.runs), 6)

    def test_all_near_places(self):
        for point in FEWEST:
            self.assert_least(Place(*point))
        self.assertEqual(least_walk(home_place()), Walk(""))

    def test_great_numbers(self):
        for place in VAST:
            for storeys in (-HUGE, -1, 0, 1, HUGE):
                self.assert_least(place.lifted(storeys))

    def test_wrong_values(self):
        for value in no_places():
            assert_raises(self, BadPlace, {"value": value}, least_walk, value)


class WalkOfTest(unittest.TestCase):
    def assert_walk(self, place, number):
        walk = walk_of(place, number)
        self.assertEqual(figures_of(walk.place()), figures_of(place))
        self.assertEqual(walk.length, number)
        self.assertLessEqual(len(walk.runs), 7)

    def test_all_near_places(self):
        for point, least in listed_steps(8).items():
            place = Place(*point)
            for number in range(least + 9):
                if number < least or (number - least) % 2 == 1:
                    self.assertIsNone(walk_of(place, number))
                else:
                    self.assert_walk(place, number)

    def test_great_numbers(self):
        for place in VAST:
            least = steps(place)
            self.assert_walk(place, least)
            self.assert_walk(place, least + 2)
            self.assert_walk(place, least + 2 * HUGE)
            self.assertIsNone(walk_of(place, least - 1))
            self.assertIsNone(walk_of(place, least - 2))
            self.assertIsNone(walk_of(place, least + 1))
            self.assertIsNone(walk_of(place, 0))

    def test_wrong_values(self):
        for value in no_places():
            assert_raises(self, BadPlace, {"value": value}, walk_of, value, 4)
            assert_raises(self, BadPlace, {"value": value}, walk_of, value, -1)
        for value in no_whole_numbers():
            assert_raises(self, BadNumber, {"value": value}, walk_of, Place(1, 0, 0), value)


class AreasTest(unittest.TestCase):
    def test_examples(self):
        self.assertEqual(areas(0, 0, 10), (-6, 6))
        self.assertEqual(areas(2, 1, 3), (0, 2))
        self.assertIsNone(areas(2, 1, 4))

    def test_all_short_walks(self):
        for number in range(10):
            found = {}
            for x, y, area in listed_walks(number):
                found.setdefault((x, y), []).append(area)
            for x, y in itertools.product(range(-11, 12), repeat=2):
                bounds = areas(x, y, number)
                if (x, y) in found:
                    self.assertEqual(list(range(bounds[0], bounds[1] + 1)), sorted(found[x, y]))
                else:
                    self.assertIsNone(bounds)

    def test_great_numbers(self):
        self.assertEqual(areas(0, 0, 4 * HUGE), (-HUGE * HUGE, HUGE * HUGE))
        self.assertEqual(areas(HUGE, 0, HUGE), (0, 0))
        self.assertEqual(areas(HUGE, 0, HUGE + 2), (-HUGE, HUGE))
        self.assertEqual(areas(-HUGE, 2, HUGE + 2), (-2 * HUGE, 0))
        self.assertIsNone(areas(HUGE, 1, HUGE))
        self.assertIsNone(areas(HUGE, 1, HUGE + 2))
        for place in VAST:
            number = steps(place)
            least, greatest = areas(place.x, place.y, number)
            self.assertTrue(least <= place.area <= greatest)
            fewer = areas(place.x, place.y, number - 2)
            self.assertFalse(fewer is not None and fewer[0] <= place.area <= fewer[1])

    def test_wrong_values(self):
        for value in no_integers():
            assert_raises(self, BadNumber, {"value": value}, areas, value, 0, 4)
            assert_raises(self, BadNumber, {"value": value}, areas, 0, value, 4)
            assert_raises(self, BadNumber, {"value": value}, areas, value, "later", -1)
            assert_raises(self, BadNumber, {"value": value}, areas, 0, value, -1)
        for value in no_whole_numbers():
            assert_raises(self, BadNumber, {"value": value}, areas, 0, 0, value)


class NeighboursTest(unittest.TestCase):
    def test_examples(self):
        self.assertEqual(nearer(Place(0, 0, 1)), "enws")
        self.assertEqual(first_letters(Place(2, 1, 0)), "n")
        self.assertIs(is_summit(Place(0, 0, 1)), True)

    def test_home(self):
        self.assertEqual(nearer(home_place()), "")
        self.assertEqual(first_letters(home_place()), "")
        self.assertIs(is_summit(home_place()), False)

    def test_nearer_of_all_near_places(self):
        summits = 0
        for point, number in FEWEST.items():
            if number < 11:
                letters = "".join(letter for letter in "enws" if FEWEST[stepped(point, letter)] < number)
                self.assertEqual(nearer(Place(*point)), letters)
                self.assertIs(is_summit(Place(*point)), letters == "enws")
                summits += letters == "enws"
        self.assertGreater(summits, 2)

    def test_first_letters_of_all_near_places(self):
        # By the first letters of all least walks to each place, ring by ring.
        firsts = {stepped((0, 0, 0), letter): {letter} for letter in "enws"}
        for point, number in FEWEST.items():
            if number in range(1, 11):
                for letter in "enws":
                    end = stepped(point, letter)
                    if FEWEST[end] > number:
                        firsts.setdefault(end, set()).update(firsts[point])
        for point, found in firsts.items():
            self.assertEqual(first_letters(Place(*point)), "".join(sorted(found, key="enws".index)))

    def test_great_numbers(self):
        self.assertEqual(nearer(Place(HUGE, 0, 0)), "w")
        self.assertEqual(first_letters(Place(HUGE, 0, 0)), "e")
        self.assertEqual(nearer(Place(0, 0, HUGE * HUGE)), "enws")
        self.assertIs(is_summit(Place(0, 0, -HUGE * HUGE)), True)
        self.assertIs(is_summit(Place(HUGE, HUGE, 5)), False)
        for place in VAST:
            for letter in first_letters(place):
                across, up = STRIDES[letter]
                self.assertEqual(steps(~Place(across, up, 0) * place), steps(place) - 1)

    def test_wrong_values(self):
        for value in no_places():
            for call in (nearer, first_letters, is_summit):
                assert_raises(self, BadPlace, {"value": value}, call, value)


class LiesBetweenTest(unittest.TestCase):
    def test_on_a_least_walk(self):
        here = Place(3, -2, 9)
        for letters in ("eenw", "ennwwss", "nnnn", "", "enws"):
            walk = Walk(letters)
            for number in range(len(letters) + 1):
                self.assertIs(lies_between(here * walk.at(number), here, here * walk.place()), True)

    def test_all_near_places(self):
        goals = [Place(*point) for point, number in FEWEST.items() if number == 4]
        for goal in goals[::5]:
            for point, number in FEWEST.items():
                if number < 5:
                    place = Place(*point)
                    between = FEWEST[point] + FEWEST[figures_of(~place * goal)] == 4
                    self.assertIs(lies_between(place, home_place(), goal), between)

    def test_great_numbers(self):
        one, other = Place(HUGE, 5, -HUGE), Place(HUGE, 5, HUGE)
        walk = least_walk(~one * other)
        middle = one * walk.at(walk.length // 2)
        self.assertIs(lies_between(middle, one, other), True)
        self.assertIs(lies_between(middle.lifted(HUGE), one, other), False)

    def test_first_wrong_value(self):
        good = Place(1, 0, 0)
        for value in no_places():
            assert_raises(self, BadPlace, {"value": value}, lies_between, value, good, good)
            assert_raises(self, BadPlace, {"value": value}, lies_between, value, "second", "third")
            assert_raises(self, BadPlace, {"value": value}, lies_between, good, value, "third")
            assert_raises(self, BadPlace, {"value": value}, lies_between, good, good, value)
            assert_raises(self, BadPlace, {"value": value}, lies_between, one=value, other="third", place=good)


if __name__ == "__main__":
    unittest.main()
