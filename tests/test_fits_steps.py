"""Promises 5 to 7, 13, 14, 25 to 31 and 40 to 60: lots, prices, kings, paths, floors and formulas fit to the others."""

import itertools
import random
import unittest

from areawalks.alikes import alike, list_key
from areawalks.book import Book
from areawalks.closed import Closed
from areawalks.errors import Barred
from areawalks.formulas import Formula
from areawalks.forwards import Forward
from areawalks.kings import KingWalk, king_least, king_round
from areawalks.least import areas, distance, least_walk, lies_between, steps, walk_of
from areawalks.lots import Lot
from areawalks.paths import far_paths, paths, paths_by_rest
from areawalks.places import Place, home_place
from areawalks.prices import Prices
from areawalks.promises import Along, Between, Cheap, Same, Within
from areawalks.renamings import Renaming, renaming_of_view
from areawalks.roots import figures_along, root
from areawalks.spheres import least_walks, sphere, walks_to
from areawalks.tables import Table
from areawalks.walks import Walk
from tests.samples import HUGE, figures_of
from tests.table_samples import box, random_place

STEPS = {letter: Walk(letter).place() for letter in "enws"}
KEEPING = [
    Renaming(STEPS[east], STEPS[north]) for east, north in itertools.permutations("enws", 2)
    if STEPS[east].twist(STEPS[north]) != 0]
FLOORS = [
    Closed(Table([Place(*point) for point in points])) for points in (
        [(2, 0, 0), (0, 2, 0), (0, 0, 2)], [(3, 3, 1), (0, 6, 2), (0, 0, 3)], [(1, 4, 0), (0, 9, 0), (0, 0, 1)],
        [(4, 8, 3), (0, 12, 1), (0, 0, 4)], [(5, 0, 0), (0, 5, 0), (0, 0, 5)])]
PRICES = [(1, 1, 1, 1), (1, 2, 3, 4), (9, 1, 1, 5), (1000, 1, 7, 30)]


def renamed_counts(renaming, counts):
    """How many steps east, north, west and south a walk has whose steps are renamed."""
    renamed = dict.fromkeys("enws", 0)
    for letter, number in zip("enws", counts):
        image = renaming(STEPS[letter])
        renamed[[other for other in "enws" if STEPS[other] == image][0]] += number
    return tuple(renamed[letter] for letter in "enws")


class StepsTest(unittest.TestCase):
    def test_renamings_that_keep_steps(self):
        self.assertEqual(len(KEEPING), 8)
        self.assertTrue(all(renaming.keeps_steps() for renaming in KEEPING))

    def test_renamed_lots(self):
        for renaming, counts in itertools.product(KEEPING, itertools.product(range(3), repeat=4)):
            lot, renamed = Lot(*counts), Lot(*renamed_counts(renaming, counts))
            low, high = lot.swept_areas()
            ends = [renaming(Place(*lot.ends(), area)) for area in (low, high)]
            self.assertEqual({(end.x, end.y) for end in ends}, {renamed.ends()})
            self.assertEqual(tuple(sorted(end.area for end in ends)), renamed.swept_areas())

    def test_renamed_prices(self):
        for renaming, told in itertools.product(KEEPING, PRICES):
            prices, renamed = Prices(*told), Prices(*renamed_counts(renaming, told))
            for place in box(3, 7)[::5] + [Place(HUGE, -5, HUGE), Place(0, 3, -HUGE)]:
                self.assertEqual(renamed.least_price(renaming(place)), prices.least_price(place))

    def test_renamed_floors(self):
        chance = random.Random(25)
        for renaming, floor in itertools.product(KEEPING, FLOORS):
            renamed = Closed(Table([renaming(place) for place in floor.basis.told]))
            self.assertEqual(renamed.spread(), floor.spread())
            self.assertEqual(steps(renamed.least_round()), steps(floor.least_round()))
            for _ in range(10):
                one, other = random_place(chance, 30), random_place(chance, 30)
                self.assertEqual(
                    renamed.steps_between(renaming(one), renaming(other)), floor.steps_between(one, other))

    def test_paths_are_least_walks(self):
        for x, y in itertools.product(range(6), repeat=2):
            for area in range(x * y + 3):
                place = Place(x, y, area)
                self.assertEqual(paths(x, y, area), least_walks(place) if steps(place) == x + y else 0)
                self.assertEqual(paths(x, y, area), walks_to(place, x + y))
                self.assertEqual(paths(x, y, area) > 0, Lot(x, y, 0, 0).walk_with(area) is not None)

    def test_paths_in_cosets(self):
        for x, y, modulus in itertools.product((0, 3, 5), (2, 6), (1, 2, 5, 6)):
            table = Table([Place(0, 0, modulus)])
            for rest in range(modulus):
                there = [area for area in range(x * y + 1) if table.rest(Place(x, y, area)).area == rest]
                number = sum(paths(x, y, area) for area in there)
                self.assertEqual(paths_by_rest(x, y, modulus, rest), number)
                self.assertEqual(far_paths(x, y, modulus, rest, 4999), number % 4999)

    def test_rounds_of_kings_and_walks(self):
        for text in ("enws", "eennwwss", "enwwsseenw", "nesw", ""):
            walk = KingWalk([(letter, 1) for letter in text])
            place = Walk(text).place()
            # What is swept from the beginning is twice the area less that under the straight line.
            self.assertEqual(walk.ends(), (place.x, place.y))
            self.assertEqual(walk.swept(), 2 * place.area - place.x * place.y)
            self.assertLessEqual(king_least(2 * place.area), steps(place))
        for area in (1, 6, 50, HUGE):
            self.assertLessEqual(king_round(king_least(2 * area), 2 * area).length, steps(Place(0, 0, area)))

    def test_prices_of_least_walks(self):
        for told in PRICES:
            prices = Prices(*told)
            for place in box(4, 9)[::7] + [Place(HUGE, HUGE, -HUGE), Place(0, 0, HUGE)]:
                for walk in (least_walk(place), walk_of(place, steps(place) + 2)):
                    self.assertLessEqual(prices.least_price(place), prices.price_of(walk))
                cheapest = prices.cheapest(place)
                self.assertGreaterEqual(cheapest.length, steps(place))
                low, high = areas(place.x, place.y, cheapest.length)
                self.assertTrue(low <= place.area <= high)
                taken = dict.fromkeys("enws", 0)
                for letter, times in cheapest.runs:
                    taken[letter] += times
                low, high = Lot(*[taken[letter] for letter in "enws"]).swept_areas()
                self.assertTrue(low <= place.area <= high)

    def test_powers_and_roots(self):
        for place, number in itertools.product(box(2, 3), (2, 3, 5)):
            power = Formula(f"{number} a").place({"a": least_walk(place)})
            self.assertEqual((power, root(power, number)), (place.power(number), place))
            for told in PRICES:
                self.assertLessEqual(Prices(*told).least_price(power), number * Prices(*told).least_price(place))


class FloorTest(unittest.TestCase):
    def test_distances_are_least_over_classes(self):
        chance = random.Random(26)
        for floor in FLOORS:
            for _ in range(20):
                one, other = random_place(chance, 20), random_place(chance, 20)
                number = floor.steps_between(one, other)
                self.assertLessEqual(number, distance(one, other))
                walk = floor.walk_between(one, other)
                end = one * walk.place()
                self.assertEqual(distance(one, end), number)
                self.assertIn(~end * other, floor.basis)
                middle = walk.at(number // 2)
                self.assertTrue(lies_between(one * middle, one, end))
                self.assertEqual(floor.steps_between(one, one * middle), number // 2)

    def test_seen_from_elsewhere(self):
        chance = random.Random(27)
        for floor in FLOORS:
            here = random_place(chance, 50)
            self.assertEqual(floor.basis.moved(here), floor.basis)
            self.assertEqual(Table([renaming_of_view(here)(place) for place in floor.basis.told]), floor.basis)
            one, other = random_place(chance, 50), random_place(chance, 50)
            self.assertEqual(floor.steps_between(here * one, here * other), floor.steps_between(one, other))

    def test_powers_in_the_table(self):
        for floor, place in itertools.product(FLOORS, box(2, 1)):
            number = floor.basis.power_in(place)
            back = [times for times in range(1, number + 1) if floor.steps_between(home_place(), place.power(times)) == 0]
            self.assertEqual(back, [number])

    def test_classes_are_cosets(self):
        for floor in FLOORS:
            self.assertEqual(sum(floor.spread()), floor.basis.cosets())
            self.assertEqual(floor.spread()[0], 1)
            # No ring has more classes than the open floor has places.
            for number, size in enumerate(floor.spread()):
                self.assertLessEqual(size, sphere(number))
            closer = [number for number in range(len(floor.spread())) if 2 * number < steps(floor.least_round())]
            self.assertEqual(floor.spread()[:len(closer)], [sphere(number) for number in closer])

    def test_forward_walks_to_all_classes(self):
        for floor in FLOORS:
            made = Forward([*floor.basis.ledge, *[~place for place in floor.basis.ledge], Place(0, 0, floor.basis.home)])
            self.assertIs(made.around, True)
            for place in box(3, 2)[::3]:
                self.assertIs(made.has(place), floor.steps_between(home_place(), place) == 0)

    def test_keys_of_rounds(self):
        for renaming, floor in itertools.product(KEEPING, FLOORS):
            found = floor.least_round()
            self.assertEqual(list_key([found]), list_key([renaming(found)]))
            self.assertIsNotNone(alike([found], [renaming(found)]))


class FormulaTest(unittest.TestCase):
    def test_formulas_are_walks(self):
        walks = {"a": Walk("eenws"), "b": Walk("nnw"), "c": Walk([("s", HUGE)])}
        a, b, c = [walks[name] for name in "abc"]
        for text, walk in (
                ("a b", a * b), ("back ( a b )", ~(a * b)), ("3 ( a c )", (a * c).repeated(3)), ("back 2 b c", (~b).repeated(2) * c)):
            self.assertEqual(Formula(text).place(walks), walk.place())
        self.assertEqual(Formula("a b back a back b").place(walks), Place(0, 0, a.place().twist(b.place())))

    def test_promises_and_places(self):
        chance = random.Random(28)
        table = Table([Place(2, 1, 0), Place(0, 3, 1)])
        prices = Prices(*PRICES[1])
        for _ in range(200):
            one, other = random_place(chance, 3), random_place(chance, 3)
            walks = {"a": least_walk(one), "b": least_walk(other)}
            both = one * other
            self.assertIs(Same("a b", "b a").is_kept(walks), both == other * one)
            self.assertIs(Along("a", "b").is_kept(walks), one.twist(other) == 0)
            if (one.x, one.y) != (0, 0):
                self.assertIs(Along("a", "b").is_kept(walks), figures_along(one, other) is not None)
            self.assertIs(Between("a b", 0, 4).is_kept(walks), 0 <= both.area <= 4)
            self.assertIs(Cheap("a b", prices, 12).is_kept(walks), prices.least_price(both) <= 12)
            self.assertIs(Within("a b", table).is_kept(walks), both in table)

    def test_books_of_closed_floors(self):
        floor = FLOORS[1]
        book = Book()
        book.put("round", least_walk(floor.least_round()))
        book.put("aside", Walk(""))
        book.keep("closed", Within("2 round back aside round aside", floor.basis))
        with self.assertRaises(Barred):
            book.go_on("round", Walk("e"))
        # As the table is normal, a round is one seen from everywhere.
        book.put("aside", Walk("enwwn"))
        self.assertEqual(figures_of(book.place("0 round")), (0, 0, 0))
        self.assertEqual((book.promises(), book.undoable()), (("closed",), 4))


if __name__ == "__main__":
    unittest.main()
