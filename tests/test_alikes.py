"""Promises 2, 26, 52 and 61: lists and lots that renamings turn into one another."""

import itertools
import random
import unittest

from areawalks.alikes import alike, alike_lots, list_key, lot_key
from areawalks.errors import BadPlace, Uneven
from areawalks.places import Place, home_place
from areawalks.renamings import Renaming, renaming_of_view, same_names
from tests.samples import HUGE, assert_raises, figures_of, no_places
from tests.table_samples import places_of, random_place

GENERATORS = [
    Renaming(Place(0, 1, 0), Place(-1, 0, 0)), Renaming(Place(1, 0, 0), Place(0, -1, 0)),
    Renaming(Place(1, 1, 0), Place(0, 1, 0)), Renaming(Place(1, 0, 1), Place(0, 1, 0)),
    Renaming(Place(1, 0, 0), Place(0, 1, -1))]
SMALL = [
    Renaming(Place(p, q, s), Place(r, t, u)) for p, q, r, t in itertools.product((-2, -1, 0, 1, 2), repeat=4)
    if abs(p * t - q * r) == 1 for s, u in itertools.product(range(-3, 4), repeat=2)]


def random_renaming(chance):
    """A product of chance renamings that can be undone."""
    renaming = same_names()
    for _ in range(8):
        renaming = chance.choice(GENERATORS) * renaming
    return renaming


def random_list(chance, count):
    """Chance places, some of them all on one line or over home, some twice."""
    most = chance.choice((1, 2, 3))
    places = [random_place(chance, most) for _ in range(count)]
    shape = chance.random()
    if shape < 0.3:
        x, y = chance.randint(-2, 2), chance.randint(-2, 2)
        places = [Place(x * place.x, y * place.x, place.area) for place in places]
    if shape > 0.8:
        places = [chance.choice(places) for _ in places]
    return places


def points_of(places):
    return tuple(figures_of(place) for place in places)


class ListTest(unittest.TestCase):
    def check_alike(self, places, others):
        renaming = alike(places, others)
        self.assertIsInstance(renaming, Renaming)
        self.assertIn(renaming.factor(), (1, -1))
        self.assertEqual([renaming(place) for place in places], list(others))
        self.assertEqual(list_key(places), list_key(others))

    def check_unlike(self, places, others):
        self.assertIsNone(alike(places, others))
        self.assertNotEqual(list_key(places), list_key(others))

    def test_examples(self):
        self.check_alike([Place(2, 2, 0)], [Place(2, 0, 1)])
        self.check_unlike([Place(2, 2, 0)], [Place(2, 0, 0)])
        self.check_alike([Place(3, 0, 1)], [Place(3, 0, 2)])

    def test_keys(self):
        chance = random.Random(51)
        for count in range(9):
            key = list_key(random_list(chance, count))
            self.assertIsInstance(key, tuple)
        self.assertEqual(list_key([]), list_key(()))
        self.assertNotEqual(list_key([home_place()]), list_key([home_place()] * 2))

    def test_renamed_lists(self):
        chance = random.Random(52)
        for count in [1, 1, 2, 2, 3, 4, 5, 8] * 40:
            places = random_list(chance, count)
            renaming = random_renaming(chance)
            self.check_alike(places, [renaming(place) for place in places])

    def test_unlike_exactly_where_no_renaming_does(self):
        # All small renamings that can be undone, and all small places, tried one by one.
        points = list(itertools.product((-1, 0, 1), (-1, 0, 1), (-2, -1, 0, 1, 2)))
        groups = {}
        for point in points:
            groups.setdefault(list_key([Place(*point)]), []).append(point)
        for point in points:
            images = {figures_of(renaming(Place(*point))) for renaming in SMALL}
            self.assertEqual(sorted(images & set(points)), sorted(groups[list_key([Place(*point)])]))

    def test_unlike_pairs(self):
        chance = random.Random(53)
        points = list(itertools.product((-1, 0, 1), (-1, 0, 1), (-1, 0, 1)))
        pairs = [tuple(chance.choice(points) for _ in range(2)) for _ in range(150)]
        for pair in pairs[:30]:
            places = places_of(pair)
            images = {points_of([renaming(place) for place in places]) for renaming in SMALL}
            for other in pairs:
                if other in images:
                    self.check_alike(places, places_of(other))
                elif alike(places, places_of(other)) is None:
                    self.assertNotEqual(list_key(places), list_key(places_of(other)))
                else:
                    # A greater renaming than those that are tried.
                    self.check_alike(places, places_of(other))

    def test_places_over_home(self):
        lift = [Place(0, 0, area) for area in (3, -1, 0)]
        self.check_alike(lift, [Place(0, 0, area) for area in (-3, 1, 0)])
        self.check_unlike(lift, [Place(0, 0, area) for area in (3, 1, 0)])
        self.check_unlike(lift, [Place(0, 0, area) for area in (3, -1, 1)])
        self.check_alike([home_place()], [home_place()])
        self.check_unlike([home_place()], [Place(0, 0, 1)])
        self.check_unlike([home_place()], [Place(0, 1, 0)])

    def test_places_on_one_line(self):
        line = [Place(2, 0, 0), Place(4, 0, 1)]
        self.check_alike(line, [Place(2, 0, 4), Place(4, 0, 9)])
        self.check_alike(line, [Place(0, 2, 4), Place(0, 4, 9)])
        self.check_unlike(line, [Place(2, 0, 3), Place(4, 0, 7)])
        self.check_alike(line, [Place(-2, 0, 0), Place(-4, 0, -1)])
        self.check_unlike(line, [Place(2, 0, 0), Place(4, 0, 2)])
        self.check_unlike(line, [Place(2, 0, 0), Place(-4, 0, 1)])
        self.check_unlike(line, [Place(2, 0, 0), Place(4, 1, 1)])

    def test_areas_of_both_signs(self):
        # With ends on one line the areas may be turned about, all of them at once.
        self.check_alike([Place(5, 0, 1), Place(0, 0, 3)], [Place(5, 0, 4), Place(0, 0, -3)])
        self.check_unlike([Place(5, 0, 1), Place(0, 0, 3)], [Place(5, 0, 4), Place(0, 0, 3)])
        wide = [Place(5, 0, 1), Place(0, 5, 1), Place(0, 0, 3)]
        self.check_alike(wide, [Place(5, 0, -1), Place(0, -5, -1), Place(0, 0, -3)])
        self.check_unlike(wide, [Place(5, 0, 1), Place(0, 5, 1), Place(0, 0, -3)])

    def test_seen_from_elsewhere(self):
        places = places_of([(2, 1, 0), (0, 3, 5), (-4, 4, 1)])
        view = renaming_of_view(Place(7, -9, 0))
        self.check_alike(places, [view(place) for place in places])
        self.check_unlike(places, [places[0], places[1], places[2].lifted(1)])
        self.check_unlike(places, places[::-1])

    def test_great_numbers(self):
        chance = random.Random(54)
        renaming = Renaming(Place(HUGE, 1, HUGE), Place(7 * HUGE + 1, 7, -HUGE))
        for count in (1, 2, 8):
            places = [random_place(chance, HUGE) for _ in range(count)]
            others = [renaming(place) for place in places]
            self.check_alike(places, others)
            if count > 2:
                self.check_unlike(places, others[:-1] + [others[-1].lifted(1)])

    def test_unlike_lengths(self):
        self.assertNotEqual(list_key([Place(1, 0, 0)]), list_key([Place(1, 0, 0)] * 2))
        for call in (alike, alike_lots):
            assert_raises(self, Uneven, {"first": 1, "second": 2}, call, [home_place()], [home_place()] * 2)
            assert_raises(self, Uneven, {"first": 3, "second": 0}, call, (home_place(),) * 3, [])

    def test_wrong_places(self):
        for value in no_places():
            for call in (list_key, lot_key):
                assert_raises(self, BadPlace, {"value": value}, call, [home_place(), value, None])
            for call in (alike, alike_lots):
                assert_raises(self, BadPlace, {"value": value}, call, [home_place(), value], ["other"])
                assert_raises(self, BadPlace, {"value": value}, call, [home_place()], [home_place(), value, None])

    def test_nothing_is_changed(self):
        places, others = places_of([(2, 1, 0), (1, 1, 1)]), places_of([(1, 1, 1), (2, 1, 0)])
        for call in (alike, alike_lots):
            call(places, others)
        self.assertEqual(places, others[::-1])


class LotTest(unittest.TestCase):
    def check_alike(self, places, others):
        renaming, order = alike_lots(places, others)
        self.assertIsInstance(alike_lots(places, others), tuple)
        self.assertIsInstance(renaming, Renaming)
        self.assertIn(renaming.factor(), (1, -1))
        self.assertIsInstance(order, list)
        self.assertEqual(sorted(order), list(range(len(places))))
        for at, place in enumerate(places):
            self.assertEqual(renaming(place), others[order[at]])
        self.assertEqual(lot_key(places), lot_key(others))
        return order

    def check_unlike(self, places, others):
        self.assertIsNone(alike_lots(places, others))
        self.assertNotEqual(lot_key(places), lot_key(others))

    def test_example(self):
        one, other = [Place(1, 0, 0), Place(0, 2, 0)], [Place(2, 0, 4), Place(0, 1, 0)]
        self.assertEqual(self.check_alike(one, other), [1, 0])
        self.assertNotEqual(list_key(one), list_key(other))
        self.assertIsInstance(lot_key(one), tuple)

    def test_renamed_lots_in_any_order(self):
        chance = random.Random(55)
        for count in [1, 2, 2, 3, 3, 4] * 25:
            places = random_list(chance, count)
            renaming = random_renaming(chance)
            others = [renaming(place) for place in places]
            chance.shuffle(others)
            self.check_alike(places, others)

    def test_just_where_some_order_is_alike(self):
        chance = random.Random(56)
        seen = {True: 0, False: 0}
        for count in [1, 2, 2, 3, 3, 4] * 25:
            places = random_list(chance, count)
            renaming = random_renaming(chance)
            others = [renaming(place) for place in places]
            others[0] = others[0].lifted(chance.choice((1, 2, -1)))
            some = any(alike(places, list(order)) is not None for order in itertools.permutations(others))
            seen[some] += 1
            if some:
                self.check_alike(places, others)
            else:
                self.check_unlike(places, others)
        self.assertGreater(min(seen.values()), 20)

    def test_equal_places(self):
        one, other = Place(1, 0, 0), Place(0, 1, 0)
        self.check_alike([one, one, other], [other, one, other])
        self.check_unlike([one, one, other, other], [one, other, other, other])
        self.check_alike([one, one, one, one], [other, other, other, other])
        self.check_alike([home_place()] * 3, [home_place()] * 3)
        self.check_unlike([home_place(), one], [home_place(), home_place()])

    def test_unlike_lengths(self):
        self.assertNotEqual(lot_key([home_place()]), lot_key([home_place()] * 2))
        self.assertEqual(lot_key([]), lot_key(()))
        renaming, order = alike_lots([], [])
        self.assertEqual((abs(renaming.factor()), order), (1, []))

    def test_great_numbers(self):
        chance = random.Random(57)
        renaming = Renaming(Place(HUGE, 1, HUGE), Place(7 * HUGE - 1, 7, -HUGE))
        for count in (1, 2, 4):
            places = [random_place(chance, HUGE) for _ in range(count)]
            others = [renaming(place) for place in places]
            self.check_alike(places, others[::-1])
        self.check_unlike(places, others[:-1] + [others[-1].lifted(1)])


if __name__ == "__main__":
    unittest.main()
