"""Promises 2, 6, 27, 53 and 61: lots of steps."""

import itertools
import unittest

from areawalks.errors import BadNumber
from areawalks.least import areas, walk_of
from areawalks.lots import Lot
from areawalks.places import Place
from areawalks.walks import Walk
from tests.samples import HUGE, assert_raises, figures_of, no_whole_numbers, stepped

SMALL = [counts for counts in itertools.product(range(4), repeat=4) if sum(counts) <= 7]
VAST = [
    (HUGE, HUGE, HUGE, HUGE), (HUGE, 0, 0, HUGE), (0, HUGE, 3, 1), (HUGE, 1, HUGE - 1, 0), (1, HUGE, HUGE, 2),
    (HUGE // 3, HUGE // 2, HUGE, HUGE // 7), (0, 0, HUGE, 0), (5, HUGE, 0, HUGE * 9), (HUGE, 7, 2, HUGE // 5)]


def listed_areas(counts):
    """The areas of all walks with so many steps east, north, west and south, step by step."""
    ends = {((0, 0, 0, 0), (0, 0, 0))}
    for _ in range(sum(counts)):
        further = set()
        for taken, point in ends:
            for at, letter in enumerate("enws"):
                if taken[at] < counts[at]:
                    more = tuple(number + (at == other) for other, number in enumerate(taken))
                    further.add((more, stepped(point, letter)))
        ends = further
    return {point[2] for _, point in ends}


class LotTest(unittest.TestCase):
    def assert_walk(self, counts, area):
        walk = Lot(*counts).walk_with(area)
        self.assertIsInstance(walk, Walk)
        taken = {letter: 0 for letter in "enws"}
        for letter, times in walk.runs:
            taken[letter] += times
        self.assertEqual(tuple(taken[letter] for letter in "enws"), counts)
        x, y = Lot(*counts).ends()
        self.assertEqual(figures_of(walk.place()), (x, y, area))
        self.assertLessEqual(len(walk.runs), 9)

    def test_examples(self):
        self.assertEqual(Lot(2, 1, 0, 0).swept_areas(), (0, 2))
        self.assertEqual(Lot(1, 1, 1, 1).swept_areas(), (-1, 1))
        self.assertEqual(Lot(2, 0, 0, 3).swept_areas(), (-6, 0))
        self.assertIsNone(Lot(1, 1, 1, 1).walk_with(2))
        self.assertEqual(Lot(2, 1, 0, 0).walk_with(1).place().area, 1)

    def test_attributes_and_names(self):
        lot = Lot(south=4, west=3, north=2, east=1)
        self.assertEqual((lot.east, lot.north, lot.west, lot.south), (1, 2, 3, 4))
        self.assertTrue(lot == Lot(1, 2, 3, 4))
        self.assertEqual(lot.walk_with(area=0).length, 10)

    def test_equal_by_value(self):
        for one, other in itertools.product(SMALL[:40], repeat=2):
            self.assertIs(Lot(*one) == Lot(*other), one == other)
            self.assertIs(Lot(*one) != Lot(*other), one != other)
        for other in ((1, 2, 3, 4), [1, 2, 3, 4], None, 10, Walk("enn"), Place(1, 2, 3)):
            self.assertFalse(Lot(1, 2, 3, 4) == other)

    def test_small_lots(self):
        for counts in SMALL:
            lot = Lot(*counts)
            found = listed_areas(counts)
            self.assertEqual(lot.ends(), (counts[0] - counts[2], counts[1] - counts[3]))
            self.assertEqual(lot.swept_areas(), (min(found), max(found)), counts)
            self.assertEqual(found, set(range(min(found), max(found) + 1)))
            for area in range(min(found) - 3, max(found) + 4):
                if area in found:
                    self.assert_walk(counts, area)
                else:
                    self.assertIsNone(lot.walk_with(area))

    def test_lots_without_steps(self):
        self.assertEqual((Lot(0, 0, 0, 0).ends(), Lot(0, 0, 0, 0).swept_areas()), ((0, 0), (0, 0)))
        self.assertEqual(Lot(0, 0, 0, 0).walk_with(0), Walk(""))
        self.assertIsNone(Lot(0, 0, 0, 0).walk_with(1))
        self.assertEqual(Lot(5, 0, 2, 0).swept_areas(), (0, 0))
        self.assertEqual(Lot(0, 5, 0, 2).swept_areas(), (0, 0))
        self.assertEqual(Lot(5, 0, 0, 0).walk_with(0), Walk("eeeee"))

    def test_great_numbers(self):
        for counts in VAST:
            lot = Lot(*counts)
            low, high = lot.swept_areas()
            for area in {low, low + (low < high), (low + high) // 2, (low * 3 + high) // 4, high - (low < high), high}:
                self.assert_walk(counts, area)
            for area in (low - 1, high + 1, low - HUGE, high + HUGE):
                self.assertIsNone(lot.walk_with(area))

    def test_lots_are_all_walks_of_so_many_steps(self):
        for number, x, y in itertools.product(range(9), range(-4, 5), range(-4, 5)):
            spans = [
                Lot(max(x, 0) + across, max(y, 0) + up, max(-x, 0) + across, max(-y, 0) + up).swept_areas()
                for across, up in itertools.product(range(5), repeat=2)
                if abs(x) + abs(y) + 2 * across + 2 * up == number]
            least = min([low for low, _ in spans], default=None)
            greatest = max([high for _, high in spans], default=None)
            self.assertEqual(areas(x, y, number), (least, greatest) if spans else None)
            # Each area between is that of a lot, too.
            for area in range(least, greatest + 1) if spans else []:
                self.assertTrue(any(low <= area <= high for low, high in spans))
                self.assertIsNotNone(walk_of(Place(x, y, area), number))

    def test_turned_and_mirrored_lots(self):
        for east, north, west, south in SMALL + VAST:
            low, high = Lot(east, north, west, south).swept_areas()
            self.assertEqual(Lot(west, north, east, south).swept_areas(), (-high, -low))
            self.assertEqual(Lot(east, south, west, north).swept_areas(), (-high, -low))
            flat = (east - west) * (north - south)
            self.assertEqual(Lot(north, east, south, west).swept_areas(), (flat - high, flat - low))

    def test_wrong_values(self):
        for value in no_whole_numbers():
            for at in range(4):
                told = [1, 2, 3, 4]
                told[at] = value
                assert_raises(self, BadNumber, {"value": value}, Lot, *told)
                assert_raises(self, BadNumber, {"value": value}, Lot, *told[:at + 1], *["later"] * (3 - at))


if __name__ == "__main__":
    unittest.main()
