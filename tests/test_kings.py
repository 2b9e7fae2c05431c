"""Promises 2, 29, 55 and 61: king's walks and their rounds."""

import itertools
import unittest

from areawalks.errors import BadNumber, BadWord
from areawalks.kings import KingWalk, king_least, king_most, king_round
from areawalks.walks import Walk
from tests.samples import HUGE, assert_raises, no_integers, no_whole_numbers, values_of_all_kinds

STRIDES = {
    "e": (1, 0), "ne": (1, 1), "n": (0, 1), "nw": (-1, 1), "w": (-1, 0), "sw": (-1, -1), "s": (0, -1), "se": (1, -1)}
TOLD = [
    [], [("e", 3)], [("ne", 1), ("nw", 1), ("sw", 1), ("se", 1)], [("e", 2), ("n", 0), ("e", 1), ("sw", 4)],
    [("se", 5), ("s", 2), ("nw", 3), ("n", 7), ("e", 1)], [("w", 0)], [("sw", 9), ("ne", 9)]]


def figures_by_steps(told):
    """Where pairs end and what they sweep, step by step."""
    x = y = swept = 0
    for direction, times in told:
        across, up = STRIDES[direction]
        for _ in range(times):
            swept += x * up - y * across
            x, y = x + across, y + up
    return x, y, swept


def listed_rounds(most):
    """What the rounds of each number of steps sweep, found by listing all walks."""
    ends = {(0, 0, 0)}
    rounds = []
    for _ in range(most + 1):
        rounds.append({swept for x, y, swept in ends if (x, y) == (0, 0)})
        ends = {
            (x + across, y + up, swept + x * up - y * across)
            for x, y, swept in ends for across, up in STRIDES.values()}
    return rounds


def most_of(number):
    """most(number) of [29]."""
    if number % 4 == 0:
        return number * number // 4
    return number * number // 4 - 1 if number % 2 == 0 else (number * number - 5) // 4


class KingWalkTest(unittest.TestCase):
    def test_examples(self):
        diamond = KingWalk([("ne", 1), ("nw", 1), ("sw", 1), ("se", 1)])
        self.assertEqual((diamond.ends(), diamond.swept(), diamond.length), ((0, 0), 4, 4))
        self.assertEqual(KingWalk([("e", 1), ("n", 0), ("e", 1)]).runs, (("e", 2),))
        assert_raises(self, BadNumber, {"value": -1}, KingWalk, [("e", -1), ("x", 1)])

    def test_what_walks_do(self):
        for told in TOLD:
            walk = KingWalk(told)
            x, y, swept = figures_by_steps(told)
            self.assertEqual((walk.ends(), walk.swept()), ((x, y), swept))
            self.assertEqual(walk.length, sum(times for _, times in told))
        walk = KingWalk([("e", HUGE), ("nw", 2 * HUGE), ("s", 1)])
        self.assertEqual(walk.ends(), (-HUGE, 2 * HUGE - 1))
        self.assertEqual((walk.swept(), walk.length), (2 * HUGE * HUGE + HUGE, 3 * HUGE + 1))

    def test_runs(self):
        self.assertEqual(KingWalk([]).runs, ())
        self.assertEqual(KingWalk([("nw", 0)]).runs, ())
        self.assertEqual(KingWalk([("n", 1), ("n", 2), ("ne", 1), ("e", 0), ("ne", 4)]).runs, (("n", 3), ("ne", 5)))
        self.assertEqual(KingWalk([("n", 1), ("w", 0), ("w", 2), ("s", 0)]).runs, (("n", 1), ("w", 2)))
        for told in ([["e", 1], ["ne", 2]], (("e", 1), ("ne", 2)), (["e", 1], ("ne", 2))):
            walk = KingWalk(told=told)
            self.assertEqual(walk.runs, (("e", 1), ("ne", 2)))
            self.assertEqual([run.__class__ for run in (walk.runs, *walk.runs)], [tuple] * 3)
        self.assertEqual(len(KingWalk([("e", 1), ("ne", 1)] * 5000).runs), 10000)

    def test_copies(self):
        pair = ["e", 2]
        told = [pair]
        walk = KingWalk(told)
        pair[1] = 5
        told.append(("w", 1))
        self.assertEqual(walk.runs, (("e", 2),))

    def test_equal_by_value(self):
        self.assertTrue(KingWalk([("e", 1), ("e", 1)]) == KingWalk([("e", 2), ("n", 0)]))
        self.assertFalse(KingWalk([("e", 2)]) != KingWalk([("e", 2)]))
        for one, other in itertools.product(TOLD, repeat=2):
            self.assertIs(KingWalk(one) == KingWalk(other), KingWalk(one).runs == KingWalk(other).runs)
        for other in ((("e", 2),), [("e", 2)], Walk("ee"), None, 2):
            self.assertFalse(KingWalk([("e", 2)]) == other)

    def test_wrong_directions(self):
        wrong = ["", "x", "E", "NE", "en", "ee", "nee", "ne ", "east", *values_of_all_kinds()]
        for value in [value for value in wrong if not isinstance(value, str) or value not in STRIDES]:
            for told in ([(value, 1)], [("e", 1), (value, 2)], [(value, -1)], [[value, None], ("e", -1)]):
                assert_raises(self, BadWord, {"value": value}, KingWalk, told)

    def test_wrong_times(self):
        for value in no_whole_numbers():
            for told in ([("e", value)], [("e", 1), ("sw", value)], [["n", value], ("x", 1)], [("n", value), ("e", None)]):
                assert_raises(self, BadNumber, {"value": value}, KingWalk, told)


class RoundTest(unittest.TestCase):
    def assert_round(self, number, swept):
        walk = king_round(number, swept)
        self.assertIsInstance(walk, KingWalk)
        self.assertEqual((walk.ends(), walk.swept(), walk.length), ((0, 0), swept, number))
        self.assertLessEqual(len(walk.runs), 12)

    def test_examples(self):
        self.assertEqual([king_most(number) for number in range(2, 9)], [0, 1, 4, 5, 8, 11, 16])
        self.assertEqual((king_least(5), king_least(-6)), (5, 6))
        self.assertIsNone(king_round(4, 3))
        self.assertEqual(king_round(8, 14).swept(), 14)

    def test_all_walks_of_few_steps(self):
        for number, found in enumerate(listed_rounds(9)):
            self.assertEqual(king_most(number), max(found, default=None))
            for swept in range(-30, 31):
                if swept in found:
                    self.assert_round(number, swept)
                else:
                    self.assertIsNone(king_round(number, swept))

    def test_all_rounds_of_more_steps(self):
        for number in range(2, 40):
            most = most_of(number)
            self.assertEqual(king_most(number), most)
            for swept in range(-most - 4, most + 5):
                if swept % 2 == number % 2 and abs(swept) <= most:
                    self.assert_round(number, swept)
                else:
                    self.assertIsNone(king_round(number, swept))

    def test_least_numbers(self):
        numbers = [number for number in range(60) if number != 1]
        for swept in range(-700, 701):
            fitting = [
                number for number in numbers
                if (swept - number) % 2 == 0 and abs(swept) <= (most_of(number) if number > 0 else 0)]
            self.assertEqual(king_least(swept), fitting[0], swept)
        for swept in (HUGE, HUGE + 1, HUGE * HUGE, HUGE * HUGE - 1, -HUGE * (HUGE + 1), HUGE * HUGE // 4):
            number = king_least(swept)
            self.assert_round(number, swept)
            self.assertLess(most_of(number - 2), abs(swept))

    def test_few_steps(self):
        self.assertEqual((king_most(0), king_most(1), king_most(2), king_most(3)), (0, None, 0, 1))
        self.assertEqual(king_round(0, 0), KingWalk([]))
        self.assertEqual((king_least(0), king_least(1), king_least(-1), king_least(2)), (0, 3, 3, 4))
        for number, swept in ((0, 1), (0, 2), (0, -HUGE), (1, 0), (1, 1), (1, -1), (2, 1), (2, 2), (3, 0), (3, 3), (3, -3)):
            self.assertIsNone(king_round(number, swept))
        for number, swept in ((2, 0), (3, 1), (3, -1)):
            self.assert_round(number, swept)

    def test_great_numbers(self):
        for number in range(HUGE, HUGE + 4):
            most = king_most(number)
            self.assertEqual(most, most_of(number))
            for swept in (most, most - 2, most - 4, most - 2 * (HUGE // 3), number % 2, number % 2 + 2):
                self.assert_round(number, swept)
                self.assert_round(number, -swept)
                self.assertIsNone(king_round(number, swept + 1))
            for swept in (most + 1, most + 2, -most - 2):
                self.assertIsNone(king_round(number, swept))

    def test_names(self):
        self.assertEqual(king_most(number=8), 16)
        self.assertEqual(king_least(swept=5), 5)
        self.assertEqual(king_round(swept=14, number=8).length, 8)

    def test_wrong_values(self):
        for value in no_whole_numbers():
            assert_raises(self, BadNumber, {"value": value}, king_most, value)
            assert_raises(self, BadNumber, {"value": value}, king_round, value, 0)
            assert_raises(self, BadNumber, {"value": value}, king_round, value, "later")
        for value in no_integers():
            assert_raises(self, BadNumber, {"value": value}, king_least, value)
            assert_raises(self, BadNumber, {"value": value}, king_round, 4, value)
            assert_raises(self, BadNumber, {"value": value}, king_round, 1, value)


if __name__ == "__main__":
    unittest.main()
