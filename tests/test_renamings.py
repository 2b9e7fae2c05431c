"""Promises 2, 25, 51 and 61: other names for the steps."""

import itertools
import random
import unittest

from areawalks.errors import BadNumber, BadPlace, NotOnto
from areawalks.places import Place, home_place, product_of
from areawalks.renamings import Renaming, renaming_of_view, same_names
from areawalks.tables import Table
from areawalks.views import seen_from
from tests.samples import HUGE, assert_raises, figures_of, listed_steps, no_integers, no_places
from tests.table_samples import box, random_place, random_tables

QUARTER = Renaming(Place(0, 1, 0), Place(-1, 0, 0))
STRIDES = {"e": Place(1, 0, 0), "n": Place(0, 1, 0), "w": Place(-1, 0, 0), "s": Place(0, -1, 0)}
ONTO = [
    same_names(), QUARTER, Renaming(Place(1, 0, 0), Place(0, -1, 0)), Renaming(Place(1, 0, 3), Place(0, 1, -2)),
    Renaming(Place(1, 1, 0), Place(0, 1, 5)), Renaming(Place(0, 1, 7), Place(-1, -1, 0)),
    Renaming(Place(2, 3, -1), Place(1, 1, 4)), Renaming(Place(0, 1, 0), Place(1, 0, 0))]
OTHERS = [
    Renaming(Place(2, 0, 0), Place(0, 1, 0)), Renaming(home_place(), home_place()),
    Renaming(Place(0, 0, 3), Place(0, 0, -2)), Renaming(Place(2, 4, 1), Place(-1, -2, 0)),
    Renaming(Place(1, 2, 3), Place(3, -1, 2)), Renaming(Place(-2, 0, 0), Place(0, 1, 1))]
ALL = ONTO + OTHERS


def random_renamings(number, most=3):
    chance = random.Random(41)
    return [Renaming(random_place(chance, most), random_place(chance, most)) for _ in range(number)]


def walked(renaming, letters):
    """Where a walk leads if each of its steps is replaced."""
    steps = {"e": renaming.east, "n": renaming.north, "w": ~renaming.east, "s": ~renaming.north}
    return product_of([steps[letter] for letter in letters])


class ImageTest(unittest.TestCase):
    def test_example(self):
        self.assertEqual(QUARTER(Place(2, 3, 1)), Place(-3, 2, -5))

    def test_walks_step_by_step(self):
        for renaming in ALL + random_renamings(20):
            for number in range(6):
                for letters in list(itertools.product("enws", repeat=number))[::1 + number * 5]:
                    end = product_of([STRIDES[letter] for letter in letters])
                    self.assertEqual(renaming(end), walked(renaming, letters))

    def test_form(self):
        for renaming in ALL + random_renamings(20):
            for place in box(3, 2)[::3]:
                plain = renaming.north.power(place.y) * renaming.east.power(place.x)
                self.assertEqual(renaming(place), plain.lifted(renaming.factor() * place.area))

    def test_products(self):
        chance = random.Random(42)
        for renaming in ALL + random_renamings(100):
            one, other = random_place(chance, 9), random_place(chance, 9)
            self.assertEqual(renaming(one * other), renaming(one) * renaming(other))
            self.assertEqual(renaming(~one), ~renaming(one))

    def test_great_numbers(self):
        renaming = Renaming(Place(HUGE, 1, -HUGE), Place(3, HUGE + 1, HUGE))
        one, other = Place(-HUGE, HUGE, 1), Place(HUGE + 2, -5, HUGE)
        self.assertEqual(renaming(one * other), renaming(one) * renaming(other))
        self.assertEqual(renaming(Place(0, 0, HUGE)).area, HUGE * (HUGE * (HUGE + 1) - 3))

    def test_wrong_places(self):
        for value in no_places():
            for renaming in (QUARTER, OTHERS[0]):
                assert_raises(self, BadPlace, {"value": value}, renaming, value)
            assert_raises(self, BadPlace, {"value": value}, Renaming, value, None)
            assert_raises(self, BadPlace, {"value": value}, Renaming, home_place(), value)


class ProductTest(unittest.TestCase):
    def test_attributes_and_equality(self):
        renaming = Renaming(north=Place(1, 2, 3), east=Place(4, 5, 6))
        self.assertEqual((renaming.east, renaming.north), (Place(4, 5, 6), Place(1, 2, 3)))
        self.assertEqual(renaming, Renaming(Place(4, 5, 6), Place(1, 2, 3)))
        self.assertNotEqual(renaming, Renaming(Place(1, 2, 3), Place(4, 5, 6)))
        self.assertNotEqual(renaming, Renaming(Place(4, 5, 6), Place(1, 2, 4)))
        self.assertNotEqual(renaming, Renaming(Place(4, 5, 7), Place(1, 2, 3)))
        self.assertNotEqual(same_names(), Place(1, 0, 0))
        self.assertNotEqual(same_names(), Table([]))

    def test_one_behind_the_other(self):
        chance = random.Random(43)
        for one, other in itertools.product(ALL, repeat=2):
            place = random_place(chance, 9)
            self.assertEqual((one * other)(place), one(other(place)))
            self.assertEqual((one * other).factor(), one.factor() * other.factor())

    def test_no_renaming(self):
        for value in (None, 5, home_place(), [QUARTER]):
            with self.assertRaises(TypeError):
                QUARTER * value

    def test_same_names(self):
        for place in box(2, 2):
            self.assertEqual(same_names()(place), place)
        for renaming in ALL:
            self.assertEqual(same_names() * renaming, renaming)
            self.assertEqual(renaming * same_names(), renaming)

    def test_factor_and_index(self):
        self.assertEqual((OTHERS[0].factor(), OTHERS[0].index()), (2, 4))
        self.assertEqual([renaming.factor() for renaming in ONTO], [1, 1, -1, 1, 1, 1, -1, -1])
        self.assertEqual([renaming.factor() for renaming in OTHERS], [2, 0, 0, 0, -7, -2])
        self.assertEqual([renaming.index() for renaming in ONTO], [1] * 8)
        self.assertEqual([renaming.index() for renaming in OTHERS], [4, None, None, None, 49, 4])
        self.assertEqual(Renaming(Place(HUGE, 0, 1), Place(3, HUGE, 0)).index(), HUGE ** 4)

    def test_index_counts_cosets(self):
        # All images make a table; the renaming multiplies the index of any other one by this.
        for renaming in ALL:
            images = Table([renaming.east, renaming.north])
            self.assertEqual(images.cosets(), renaming.index())


class UndoingTest(unittest.TestCase):
    def test_undone(self):
        for renaming in ONTO + [one * other for one, other in itertools.product(ONTO, repeat=2)]:
            self.assertEqual(~renaming * renaming, same_names())
            self.assertEqual(renaming * ~renaming, same_names())
            for place in box(2, 1)[::7]:
                self.assertEqual((~renaming)(renaming(place)), place)

    def test_not_onto(self):
        for renaming in OTHERS:
            with self.assertRaises(NotOnto) as caught:
                ~renaming
            self.assertEqual(caught.exception.number, renaming.factor())

    def test_great_numbers(self):
        renaming = Renaming(Place(HUGE, 1, HUGE), Place(7 * HUGE - 1, 7, -HUGE))
        self.assertEqual(renaming.factor(), 1)
        self.assertEqual((~renaming)(renaming(Place(HUGE, -HUGE, 3))), Place(HUGE, -HUGE, 3))
        renaming = Renaming(Place(HUGE, 1, HUGE), Place(7 * HUGE + 1, 7, -HUGE))
        self.assertEqual(renaming.factor(), -1)
        self.assertEqual(renaming((~renaming)(Place(HUGE, -HUGE, 3))), Place(HUGE, -HUGE, 3))


class PowerTest(unittest.TestCase):
    def test_done_one_by_one(self):
        for renaming in ALL:
            done = same_names()
            for number in range(12):
                self.assertEqual(renaming.power(number), done)
                done = renaming * done

    def test_below_0(self):
        for renaming in ONTO:
            for number in (-1, -2, -3, -7, -12):
                self.assertEqual(renaming.power(number), (~renaming).power(-number))
                self.assertEqual(renaming.power(number) * renaming.power(-number), same_names())
        for renaming in OTHERS:
            for number in (-1, -1000):
                assert_raises(self, NotOnto, {"number": renaming.factor()}, renaming.power, number)
            self.assertEqual(renaming.power(0), same_names())

    def test_the_most(self):
        view = renaming_of_view(Place(3, -2, 0))
        self.assertEqual(view.power(1000), renaming_of_view(Place(3000, -2000, 0)))
        self.assertEqual(view.power(-1000), renaming_of_view(Place(-3000, 2000, 0)))
        doubled = OTHERS[0].power(1000)
        self.assertEqual((doubled.east, doubled.north), (Place(2 ** 1000, 0, 0), Place(0, 1, 0)))
        far = Renaming(Place(HUGE, 1, 0), Place(7 * HUGE - 1, 7, 5))
        self.assertEqual(far.power(1000) * far.power(-999), far)

    def test_wrong_numbers(self):
        for renaming in ALL:
            for value in no_integers() + [1001, -1001, HUGE, -HUGE]:
                assert_raises(self, BadNumber, {"value": value}, renaming.power, value)


class OrderTest(unittest.TestCase):
    def test_all_orders(self):
        for renaming, order in (
                (same_names(), 1), (Renaming(Place(-1, 0, 0), Place(0, -1, 0)), 2), (QUARTER, 4),
                (Renaming(Place(1, 0, 0), Place(0, -1, 0)), 2), (Renaming(Place(0, 1, 0), Place(-1, -1, 0)), 3),
                (Renaming(Place(0, 1, 0), Place(-1, 1, 0)), 6), (Renaming(Place(1, 0, 1), Place(0, 1, 0)), None),
                (Renaming(Place(1, 0, 0), Place(0, -1, 1)), None), (Renaming(Place(1, 1, 0), Place(0, 1, 0)), None),
                (Renaming(Place(2, 1, 0), Place(1, 1, 0)), None)):
            self.assertEqual(renaming.order(), order)
        for renaming in OTHERS:
            self.assertIsNone(renaming.order())

    def test_orders_seen_from_elsewhere(self):
        view = renaming_of_view(Place(5, -7, 2))
        for renaming in ONTO:
            moved = view * renaming * ~view
            self.assertEqual(moved.order(), renaming.order())

    def test_by_powers(self):
        ends = [end for end in itertools.product((-1, 0, 1), repeat=4) if abs(end[0] * end[3] - end[1] * end[2]) == 1]
        found = {}
        for (p, q, r, t), (s, u) in itertools.product(ends, itertools.product((-1, 0, 2), repeat=2)):
            renaming = Renaming(Place(p, q, s), Place(r, t, u))
            done, order = renaming, 1
            while done != same_names() and order < 13:
                done, order = renaming * done, order + 1
            self.assertEqual(renaming.order(), order if order < 13 else None)
            found[renaming.order()] = True
        self.assertEqual(set(found), {1, 2, 3, 4, 6, None})

    def test_great_numbers(self):
        moved = renaming_of_view(Place(HUGE, -HUGE, 0)) * QUARTER * renaming_of_view(Place(-HUGE, HUGE, 0))
        self.assertEqual(moved.order(), 4)
        self.assertEqual(Renaming(Place(0, 1, HUGE), Place(1, 0, HUGE)).order(), 2)
        self.assertIsNone(Renaming(Place(0, 1, HUGE), Place(1, 0, -HUGE)).order())


class StepsTest(unittest.TestCase):
    def test_keeps_steps(self):
        steps = {(1, 0, 0), (0, 1, 0), (-1, 0, 0), (0, -1, 0)}
        kept = 0
        for points in itertools.product(itertools.product((-1, 0, 1), repeat=3), repeat=2):
            renaming = Renaming(*[Place(*point) for point in points])
            images = {figures_of(renaming(Place(*step))) for step in steps}
            self.assertIs(renaming.keeps_steps(), images == steps)
            kept += images == steps
        self.assertEqual(kept, 8)
        self.assertIs(QUARTER.keeps_steps(), True)
        self.assertIs(Renaming(Place(HUGE, 0, 0), Place(0, 1, 0)).keeps_steps(), False)

    def test_kept_steps_keep_distances(self):
        fewest = listed_steps(5)
        for point, number in fewest.items():
            self.assertEqual(fewest[figures_of(QUARTER(Place(*point)))], number)


class ViewTest(unittest.TestCase):
    def test_seen_from(self):
        for here in box(2, 1):
            view = renaming_of_view(here)
            self.assertEqual(view.factor(), 1)
            for place in box(2, 1)[::4]:
                self.assertEqual(view(place), seen_from(place, here))
        self.assertEqual(renaming_of_view(Place(HUGE, 3, 1))(Place(2, HUGE, 0)), Place(2, HUGE, HUGE * HUGE - 6))

    def test_tables(self):
        here = Place(2, -3, 1)
        for table in random_tables(20):
            self.assertEqual(Table([renaming_of_view(here)(place) for place in table.told]), table.moved(here))

    def test_wrong_places(self):
        for value in no_places():
            assert_raises(self, BadPlace, {"value": value}, renaming_of_view, value)


if __name__ == "__main__":
    unittest.main()
