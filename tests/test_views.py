"""Promises 2, 22, 49 and 61: walks seen from elsewhere, viewpoints and bars."""

import itertools
import math
import random
import unittest

from areawalks.errors import BadPlace, EndsDiffer, Uneven
from areawalks.places import Place, home_place
from areawalks.views import ViewBar, is_bar, seen_from, view_bar, viewpoint, viewpoint_of_all
from tests.samples import HUGE, assert_raises, figures_of, no_integers, no_places, no_whole_numbers
from tests.table_samples import box, places_of

REACH = 16
NEAR = sorted(
    (abs(p) + abs(q), p, q) for p, q in itertools.product(range(-REACH, REACH + 1), repeat=2) if abs(p) + abs(q) <= REACH)
STEPS = places_of([(1, 0, 0), (0, 1, 0), (1, 1, 0)])


def nearest(places, others):
    """The nearest viewpoint (p, q, 0) within reach, by trying all, or None."""
    for _, p, q in NEAR:
        if all(other.area - place.area == p * place.y - q * place.x for place, other in zip(places, others)):
            return p, q, 0
    return None


def divides(modulus, number):
    return number == 0 if modulus == 0 else number % modulus == 0


def shows(bar, places, others):
    """Whether a bar shows that there is no viewpoint, as it is described."""
    sums = [0, 0, 0]
    for number, place, other in zip(bar.numbers, places, others):
        for at, value in enumerate((place.x, place.y, other.area - place.area)):
            sums[at] += number * value
    return divides(bar.modulus, sums[0]) and divides(bar.modulus, sums[1]) and not divides(bar.modulus, sums[2])


def pairs_of_lists(number):
    """Pairs of lists of chance places with like ends, many of them seen from somewhere."""
    chance = random.Random(21)
    for _ in range(number):
        most = chance.choice((1, 2, 4))
        places = [Place(*[chance.randint(-most, most) for _ in range(3)]) for _ in range(chance.choice((1, 1, 2, 3, 8)))]
        if chance.random() < 0.4:
            x, y = chance.randint(-3, 3), chance.randint(-3, 3)
            places = [Place(place.x * x, place.x * y, place.area) for place in places]
        here = Place(*[chance.randint(-4, 4) for _ in range(3)])
        others = [place.lifted(here.x * place.y - here.y * place.x) for place in places]
        if chance.random() < 0.5:
            others[-1] = others[-1].lifted(chance.randint(-3, 3))
        yield places, others


class SeenFromTest(unittest.TestCase):
    def test_all_near_places(self):
        for place, here in itertools.product(box(2, 1), repeat=2):
            seen = seen_from(place, here)
            self.assertEqual(figures_of(seen), (place.x, place.y, place.area + here.x * place.y - here.y * place.x))
            self.assertEqual(seen * here, here * place)

    def test_great_numbers(self):
        seen = seen_from(Place(HUGE, -HUGE, 1), Place(2 * HUGE, 3, -HUGE))
        self.assertEqual(figures_of(seen), (HUGE, -HUGE, 1 - 2 * HUGE * HUGE - 3 * HUGE))

    def test_wrong_places(self):
        for value in no_places():
            assert_raises(self, BadPlace, {"value": value}, seen_from, value, None)
            assert_raises(self, BadPlace, {"value": value}, seen_from, home_place(), value)


class ViewpointTest(unittest.TestCase):
    def test_examples(self):
        self.assertEqual(viewpoint(Place(4, 6, 0), Place(4, 6, 2)), Place(1, 1, 0))
        self.assertIsNone(viewpoint(Place(4, 6, 0), Place(4, 6, 1)))

    def test_by_trying_all(self):
        for x, y, area in itertools.product(range(-4, 5), range(-4, 5), range(-6, 7)):
            place, other = Place(x, y, 3), Place(x, y, 3 + area)
            found = viewpoint(place, other)
            self.assertEqual(None if found is None else figures_of(found), nearest([place], [other]))
            self.assertEqual(found is not None, divides(math.gcd(x, y), area))

    def test_several_nearest(self):
        # Of all places at the distance 6 on this line that with the least p is meant.
        self.assertEqual(viewpoint(Place(1, 1, 0), Place(1, 1, 6)), Place(0, -6, 0))
        self.assertEqual(viewpoint(Place(1, 1, 0), Place(1, 1, -6)), Place(-6, 0, 0))
        self.assertEqual(viewpoint(Place(1, -1, 0), Place(1, -1, 6)), Place(-6, 0, 0))
        self.assertEqual(viewpoint(Place(-1, 1, 0), Place(-1, 1, 6)), Place(0, 6, 0))

    def test_unlike_ends(self):
        self.assertIsNone(viewpoint(Place(1, 2, 0), Place(1, 3, 0)))
        self.assertIsNone(viewpoint(Place(1, 2, 0), Place(2, 2, 0)))
        self.assertIsNone(viewpoint(Place(0, 0, 0), Place(1, 0, 0)))

    def test_over_home(self):
        self.assertEqual(viewpoint(Place(0, 0, 4), Place(0, 0, 4)), home_place())
        self.assertIsNone(viewpoint(Place(0, 0, 4), Place(0, 0, 5)))

    def test_great_numbers(self):
        self.assertEqual(viewpoint(Place(HUGE, 0, 5), Place(HUGE, 0, 5 - HUGE * HUGE)), Place(0, HUGE, 0))
        place = Place(HUGE, HUGE + 1, 0)
        found = viewpoint(place, place.lifted(-HUGE))
        self.assertEqual(seen_from(place, found), place.lifted(-HUGE))
        self.assertEqual(found, Place(0, 1, 0))
        found = viewpoint(place, place.lifted(HUGE * 3 + 7))
        self.assertEqual(seen_from(place, found), place.lifted(HUGE * 3 + 7))
        for times in (-2, -1, 1, 2):
            other = (found.x + times * place.x, found.y + times * place.y)
            self.assertGreater(abs(other[0]) + abs(other[1]), abs(found.x) + abs(found.y))

    def test_wrong_places(self):
        for value in no_places():
            assert_raises(self, BadPlace, {"value": value}, viewpoint, value, None)
            assert_raises(self, BadPlace, {"value": value}, viewpoint, home_place(), value)


class ListsTest(unittest.TestCase):
    def test_examples(self):
        others = places_of([(1, 0, -2), (0, 1, 3), (1, 1, 1)])
        self.assertEqual(viewpoint_of_all(STEPS, others), Place(3, 2, 0))
        self.assertIsNone(view_bar(STEPS, others))
        others[2] = Place(1, 1, 2)
        self.assertIsNone(viewpoint_of_all(STEPS, others))
        self.assertIs(is_bar(ViewBar([1, 1, -1], 0), STEPS, others), True)
        self.assertIs(is_bar(ViewBar([1], 2), [Place(4, 6, 0)], [Place(4, 6, 1)]), True)

    def test_viewpoint_or_bar(self):
        seen = {True: 0, False: 0}
        for places, others in pairs_of_lists(1500):
            found, bar = viewpoint_of_all(places, others), view_bar(places, others)
            self.assertIs(found is None, bar is not None)
            if found is None:
                self.assertIsNone(nearest(places, others))
                self.assertTrue(shows(bar, places, others))
                self.assertIs(is_bar(bar, places, others), True)
                self.assertEqual(len(bar.numbers), len(places))
            else:
                self.assertEqual(figures_of(found), nearest(places, others))
            seen[found is None] += 1
        self.assertGreater(min(seen.values()), 200)

    def test_is_bar_by_trying_all(self):
        for places, others in itertools.islice(pairs_of_lists(400), 0, None, 9):
            for numbers in itertools.product((-2, 0, 1, 3), repeat=min(len(places), 3)):
                bar = ViewBar([*numbers, *[1] * (len(places) - len(numbers))], 0)
                for modulus in range(5):
                    bar.modulus = modulus
                    self.assertIs(is_bar(bar, places, others), shows(bar, places, others))

    def test_lists_of_one(self):
        for x, y, area in itertools.product(range(-3, 4), range(-3, 4), range(-5, 6)):
            place, other = Place(x, y, 0), Place(x, y, area)
            self.assertEqual(viewpoint_of_all([place], (other,)), viewpoint(place, other))

    def test_one_line(self):
        places = places_of([(2, 4, 0), (-3, -6, 1), (0, 0, 7)])
        others = [seen_from(place, Place(5, -2, 9)) for place in places]
        self.assertEqual(viewpoint_of_all(places, others), Place(6, 0, 0))
        others[2] = Place(0, 0, 8)
        self.assertIsNone(viewpoint_of_all(places, others))
        self.assertTrue(shows(view_bar(places, others), places, others))

    def test_all_over_home(self):
        places = places_of([(0, 0, 7), (0, 0, -1)])
        self.assertEqual(viewpoint_of_all(places, places), home_place())
        self.assertIsNone(viewpoint_of_all(places, places[::-1]))
        self.assertTrue(shows(view_bar(places, places[::-1]), places, places[::-1]))

    def test_whole_solution_of_two_directions(self):
        # Each place alone has a viewpoint, and both have one, but no whole one.
        places, others = places_of([(2, 1, 0), (0, 2, 0)]), places_of([(2, 1, 0), (0, 2, 2)])
        self.assertIsNone(viewpoint_of_all(places, others))
        bar = view_bar(places, others)
        self.assertTrue(shows(bar, places, others))
        self.assertGreater(bar.modulus, 1)

    def test_great_numbers(self):
        chance = random.Random(22)
        for count in (1, 2, 3, 8):
            places = [Place(*[chance.randint(-HUGE, HUGE) for _ in range(3)]) for _ in range(count)]
            here = Place(chance.randint(-HUGE, HUGE), HUGE, 0)
            others = [seen_from(place, here) for place in places]
            found = viewpoint_of_all(places, others)
            self.assertEqual([seen_from(place, found) for place in places], others)
            if count > 1:
                self.assertEqual(found, here)
                others[-1] = others[-1].lifted(1)
                self.assertIsNone(viewpoint_of_all(places, others))
                self.assertTrue(shows(view_bar(places, others), places, others))

    def test_unlike_lengths(self):
        for call in (viewpoint_of_all, view_bar, lambda *lists: is_bar(ViewBar([], -1), *lists)):
            assert_raises(self, Uneven, {"first": 3, "second": 1}, call, STEPS, [Place(5, 0, 0)])
            assert_raises(self, Uneven, {"first": 1, "second": 3}, call, STEPS[:1], tuple(STEPS))
            assert_raises(self, Uneven, {"first": 0, "second": 3}, call, [], STEPS)

    def test_unlike_ends(self):
        for call in (viewpoint_of_all, view_bar, lambda *lists: is_bar(ViewBar([], -1), *lists)):
            assert_raises(self, EndsDiffer, {"number": 0}, call, STEPS, STEPS[::-1])
            assert_raises(self, EndsDiffer, {"number": 1}, call, STEPS, [STEPS[0], STEPS[0], STEPS[0]])
            assert_raises(self, EndsDiffer, {"number": 2}, call, STEPS, [*STEPS[:2], Place(1, 2, 0)])

    def test_wrong_places(self):
        for call in (viewpoint_of_all, view_bar, lambda *lists: is_bar(ViewBar([], -1), *lists)):
            for value in no_places():
                assert_raises(self, BadPlace, {"value": value}, call, [STEPS[0], value, None], [None])
                assert_raises(self, BadPlace, {"value": value}, call, STEPS, [Place(7, 7, 7), value, None])

    def test_nothing_is_changed(self):
        places, others = list(STEPS), [STEPS[0], STEPS[1], Place(1, 1, 4)]
        viewpoint_of_all(places, others)
        view_bar(places, others)
        self.assertEqual((places, others), (STEPS, [STEPS[0], STEPS[1], Place(1, 1, 4)]))


class BarTest(unittest.TestCase):
    def test_attributes(self):
        numbers = [1, -2]
        bar = ViewBar(numbers, 5)
        numbers.append(3)
        self.assertEqual((bar.numbers, bar.modulus), ([1, -2], 5))
        self.assertEqual(ViewBar((4, 5), None).numbers, [4, 5])
        self.assertIsNone(ViewBar((4, 5), None).modulus)
        self.assertNotEqual(ViewBar([1], 2), ViewBar([1], 2))

    def test_not_one_integer_for_each_index(self):
        places, others = [Place(4, 6, 0)], [Place(4, 6, 1)]
        self.assertIs(is_bar(ViewBar([3], 2), places, others), True)
        for numbers in ([], [1, 1], [1, 0], [1, "a"]):
            self.assertIs(is_bar(ViewBar(numbers, 2), places, others), False)
        for value in no_integers():
            self.assertIs(is_bar(ViewBar([value], 2), places, others), False)

    def test_wrong_moduli(self):
        places, others = [Place(4, 6, 0)], [Place(4, 6, 1)]
        for value in no_whole_numbers() + [-2]:
            self.assertIs(is_bar(ViewBar([1], value), places, others), False)
        for modulus in (0, 1, 3, 4):
            self.assertIs(is_bar(ViewBar([1], modulus), places, others), False)


if __name__ == "__main__":
    unittest.main()
