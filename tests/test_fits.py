"""Promises 13, 18, 22 to 26, 42, 45, 46 and 48 to 52: what they say of one another holds."""

import random
import unittest

from areawalks.alikes import alike, list_key, lot_key
from areawalks.cosets import least_moved, viewed
from areawalks.forwards import Forward
from areawalks.least import distance, steps
from areawalks.places import Place
from areawalks.recipes import brewed
from areawalks.renamings import Renaming, renaming_of_view
from areawalks.roots import figures_along, greatest_root, powers_to, root
from areawalks.tables import Table
from areawalks.views import seen_from, viewpoint_of_all
from tests.samples import figures_of
from tests.table_samples import box, places_of, random_place, random_tables, some_members, tables

TURNS = [
    Renaming(Place(0, 1, 0), Place(-1, 0, 0)), Renaming(Place(-1, 0, 0), Place(0, 1, 0)),
    Renaming(Place(0, -1, 0), Place(-1, 0, 0))]
ONTO = TURNS + [
    Renaming(Place(1, 1, 0), Place(0, 1, 5)), Renaming(Place(2, 3, -1), Place(1, 1, 4)),
    renaming_of_view(Place(4, -1, 3)) * TURNS[0]]


def figures_or_none(place):
    return None if place is None else figures_of(place)


class FitsTest(unittest.TestCase):
    def test_tables_seen_from_places(self):
        chance = random.Random(61)
        for table in tables() + random_tables(30):
            here = random_place(chance, 9)
            view = renaming_of_view(here)
            moved = table.moved(here)
            self.assertEqual(Table([view(place) for place in table.told]), moved)
            self.assertEqual(Table([view(place) for place in moved.ledge] + [Place(0, 0, moved.home)]), moved.moved(here))
            self.assertEqual(least_moved(moved), least_moved(table))
            for place in some_members(table)[::9]:
                self.assertIn(seen_from(place, here), moved)
            found = renaming_of_view(viewed(table, moved))
            for place in some_members(table)[::9]:
                self.assertIn(found(place), moved)

    def test_normal_tables_are_seen_as_themselves(self):
        for table in tables() + random_tables(30):
            same = all(table.moved(here) == table for here in box(1, 0))
            self.assertIs(table.is_normal(), same)
            if same:
                self.assertEqual(least_moved(table), table)

    def test_renamed_tables(self):
        for table in tables() + random_tables(30):
            for renaming in ONTO:
                renamed = Table([renaming(place) for place in table.told])
                self.assertEqual((renamed.cosets(), renamed.home), (table.cosets(), table.home))
                for place in box(2, 1)[::7]:
                    self.assertIs(renaming(place) in renamed, place in table)

    def test_steps_of_turned_places(self):
        chance = random.Random(62)
        for renaming in TURNS:
            self.assertTrue(renaming.keeps_steps())
            for place in box(4, 8)[::11]:
                other = random_place(chance, 6)
                self.assertEqual(steps(renaming(place)), steps(place))
                self.assertEqual(distance(renaming(place), renaming(other)), distance(place, other))

    def test_renamed_forward_walks(self):
        told = places_of([(2, 1, 0), (-1, 1, 3), (-1, -2, 0), (0, 0, 5)])
        made = Forward(told)
        for renaming in ONTO:
            images = [renaming(place) for place in told]
            self.assertIs(Forward(images).around, True)
            for place in some_members(made.table())[::13]:
                recipe, number = made.recipe_of(place)
                # A recipe tells products, and these are renamed one by one.
                self.assertEqual(brewed(images, recipe)[number], renaming(place))
                self.assertIs(Forward(images).has(renaming(place)), True)

    def test_views_are_alike(self):
        chance = random.Random(63)
        for count in (1, 2, 3, 4) * 20:
            places = [random_place(chance, 4) for _ in range(count)]
            others = [place.lifted(chance.randint(-2, 2)) for place in places]
            view = viewpoint_of_all(places, others)
            if view is not None:
                self.assertEqual([renaming_of_view(view)(place) for place in places], others)
                self.assertIsNotNone(alike(places, others))
                self.assertEqual(list_key(places), list_key(others))
                self.assertEqual(lot_key(places), lot_key(others[::-1]))
            if alike(places, others) is None:
                self.assertIsNone(view)

    def test_renamed_roots_and_powers(self):
        chance = random.Random(64)
        for renaming in ONTO:
            for _ in range(40):
                one, other, goal = [random_place(chance, 5) for _ in range(3)]
                for number in (1, 2, -3):
                    found = root(one.power(2), number)
                    image = None if found is None else renaming(found)
                    self.assertEqual(figures_or_none(root(renaming(one.power(2)), number)), figures_or_none(image))
                if not one.is_home():
                    number, found = greatest_root(one)
                    self.assertEqual(greatest_root(renaming(one)), (number, renaming(found)))
                for wanted in (goal, one.power(3) * other.power(-2)):
                    renamed = powers_to(renaming(one), renaming(other), renaming(wanted))
                    self.assertEqual(renamed, powers_to(one, other, wanted))

    def test_roots_lie_along_their_places(self):
        for place in box(5, 3):
            if (place.x, place.y) != (0, 0):
                number, found = greatest_root(place)
                times, storeys = figures_along(place, found)
                self.assertEqual(figures_along(place, place), (times * number, storeys * number))
                self.assertEqual(powers_to(found, Place(0, 0, 1), place), ((number, 0), []))


if __name__ == "__main__":
    unittest.main()
