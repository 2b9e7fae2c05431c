"""Promises 2, 4, 5, 7, 41 and 61: walks, and whether they are least."""

import itertools
import unittest

from areawalks.errors import BadNumber, BadWord, TooMany
from areawalks.places import Place, home_place
from areawalks.walks import Walk
from tests.samples import (
    HUGE, assert_raises, end_of, figures_of, listed_steps, no_integers, no_whole_numbers, values_of_all_kinds)

TEXTS = ["", "e", "n", "w", "s", "en", "eenw", "enws", "eswn", "wwwsse", "nnnn", "enwsen", "sswwnnee", "ewew"]
VAST = [("e", HUGE), ("n", 3), ("w", HUGE * 5), ("s", HUGE), ("e", 1)]
STAIR = [("e", 1), ("n", 1)] * 5000


def texts_up_to(number):
    """All texts of at most so many letters."""
    return ["".join(letters) for count in range(number + 1) for letters in itertools.product("enws", repeat=count)]


class TellingTest(unittest.TestCase):
    def test_runs_of_texts(self):
        self.assertEqual(Walk("eenw").runs, (("e", 2), ("n", 1), ("w", 1)))
        self.assertEqual(Walk("").runs, ())
        for text in TEXTS:
            runs = tuple((letter, len(list(group))) for letter, group in itertools.groupby(text))
            self.assertEqual(Walk(text).runs, runs)

    def test_runs_of_pairs(self):
        self.assertEqual(Walk([]).runs, ())
        self.assertEqual(Walk([("e", 0)]).runs, ())
        self.assertEqual(Walk([("e", 1), ("e", 2)]).runs, (("e", 3),))
        self.assertEqual(Walk([("e", 1), ("n", 0), ("e", 2), ("w", 0)]).runs, (("e", 3),))
        self.assertEqual(Walk([("n", 0), ("e", 1), ("w", 2)]).runs, (("e", 1), ("w", 2)))
        self.assertEqual(Walk([("n", HUGE), ("n", HUGE)]).runs, (("n", 2 * HUGE),))

    def test_tuples_and_lists(self):
        runs = (("e", 2), ("n", 1))
        self.assertEqual(Walk((("e", 2), ("n", 1))).runs, runs)
        self.assertEqual(Walk([["e", 2], ["n", 1]]).runs, runs)
        self.assertEqual(Walk((["e", 2], ("n", 1))).runs, runs)
        self.assertEqual(Walk(told=[("e", 2), ("n", 1)]).runs, runs)

    def test_runs_are_tuples(self):
        runs = Walk([["e", 2], ["n", 1]]).runs
        self.assertIs(runs.__class__, tuple)
        self.assertEqual([run.__class__ for run in runs], [tuple, tuple])

    def test_copies(self):
        pair = ["e", 2]
        told = [pair, ("n", 1)]
        walk = Walk(told)
        pair[1] = 7
        told.append(("w", 5))
        self.assertEqual(walk.runs, (("e", 2), ("n", 1)))

    def test_arguments_are_not_changed(self):
        told = [("e", 1), ("e", 1), ("n", 0)]
        Walk(told)
        self.assertEqual(told, [("e", 1), ("e", 1), ("n", 0)])

    def test_most_letters_and_pairs(self):
        self.assertEqual(Walk("e" * 10000).runs, (("e", 10000),))
        self.assertEqual(len(Walk("en" * 5000).runs), 10000)
        self.assertEqual(Walk([("e", 0)] * 10000).runs, ())
        self.assertEqual(len(Walk(STAIR).runs), 10000)
        for told in ("e" * 10001, "en" * 5001, [("e", 0)] * 10001, STAIR + [("e", 1)], tuple(STAIR) + (("s", 0),)):
            assert_raises(self, BadWord, {"value": told}, Walk, told)

    def test_wrong_values(self):
        for value in values_of_all_kinds():
            if value not in ("", "e", (), []):
                assert_raises(self, BadWord, {"value": value}, Walk, value)

    def test_wrong_texts(self):
        for text in ("x", "E", "ene ", " ", "en\n", "ee1", "e,n", "north", "enwsx", "\u0435"):
            assert_raises(self, BadWord, {"value": text}, Walk, text)

    def test_wrong_pairs(self):
        told = [("e", 1), ("x", 2)]
        with self.assertRaises(BadWord) as caught:
            Walk(told)
        self.assertIs(caught.exception.value, told)
        for pair in (("e",), ("e", 1, 1), (), "e1", "en", ("", 1), ("en", 1), ("E", 1), ("x", 0), ("e", -1),
                     (1, "e"), {"e": 1, "n": 2}, ("e", -HUGE)):
            for wrong in ([pair], [("e", 1), pair], [pair, ("n", 1)], (pair,)):
                assert_raises(self, BadWord, {"value": wrong}, Walk, wrong)

    def test_pairs_with_values_of_all_kinds(self):
        for value in values_of_all_kinds():
            if value != "e":
                assert_raises(self, BadWord, {"value": [(value, 1)]}, Walk, [(value, 1)])
        for value in no_whole_numbers():
            assert_raises(self, BadWord, {"value": [("e", value)]}, Walk, [("e", value)])
        for value in values_of_all_kinds():
            assert_raises(self, BadWord, {"value": [value]}, Walk, [value])

    def test_equal_by_value(self):
        self.assertTrue(Walk("een") == Walk([("e", 1), ("e", 1), ("s", 0), ("n", 1)]))
        self.assertFalse(Walk("een") != Walk("een"))
        self.assertFalse(Walk("enwsen") == Walk("sen"))
        for other in ("een", (("e", 2), ("n", 1)), [("e", 2), ("n", 1)], None, Place(2, 1, 2)):
            self.assertFalse(Walk("een") == other)
            self.assertTrue(Walk("een") != other)


class LeadingTest(unittest.TestCase):
    def test_length(self):
        for text in TEXTS:
            self.assertEqual(Walk(text).length, len(text))
        self.assertEqual(Walk(VAST).length, 7 * HUGE + 4)

    def test_place(self):
        self.assertEqual(figures_of(Walk("").place()), (0, 0, 0))
        self.assertEqual(figures_of(Walk("eenw").place()), (1, 1, 2))
        self.assertEqual(figures_of(Walk([("e", 10 ** 100), ("n", 2)]).place()), (10 ** 100, 2, 2 * 10 ** 100))
        self.assertEqual(figures_of(Walk("ennwwss").place()), (-1, 0, 4))
        for text in TEXTS + texts_up_to(4):
            self.assertEqual(figures_of(Walk(text).place()), end_of(text))
        self.assertEqual(
            figures_of(Walk(VAST).place()),
            (1 - 4 * HUGE, 3 - HUGE, 3 * HUGE + 4 * HUGE * HUGE))

    def test_letters(self):
        for text in TEXTS:
            self.assertEqual(Walk(text).letters(), text)
        self.assertEqual(Walk([("e", 10000)]).letters(), "e" * 10000)
        self.assertEqual(Walk(STAIR).letters(), "en" * 5000)
        for told in ([("e", 10001)], STAIR[1:] + [("w", 2)], VAST):
            assert_raises(self, TooMany, {"most": 10000}, Walk(told).letters)

    def test_sides(self):
        self.assertEqual(Walk("").sides(), (0, 0, 0, 0))
        self.assertEqual(Walk("eenw").sides(), (0, 2, 0, 1))
        self.assertEqual(Walk(VAST).sides(), (-4 * HUGE, HUGE, 3 - HUGE, 3))
        for text in TEXTS + texts_up_to(5):
            points = [end_of(text[:number]) for number in range(len(text) + 1)]
            xs, ys = [point[0] for point in points], [point[1] for point in points]
            self.assertEqual(Walk(text).sides(), (min(xs), max(xs), min(ys), max(ys)))

    def test_products(self):
        for one, other in itertools.product(TEXTS, repeat=2):
            product = Walk(one) * Walk(other)
            self.assertEqual(product.letters(), one + other)
            self.assertEqual(product, Walk(one + other))
            self.assertEqual(product.place(), Walk(one).place() * Walk(other).place())

    def test_most_runs_of_products(self):
        self.assertEqual(len((Walk(STAIR[:9000]) * Walk(STAIR[:1000])).runs), 10000)
        self.assertEqual(len((Walk(STAIR) * Walk("")).runs), 10000)
        self.assertEqual(len((Walk(STAIR) * Walk("nn")).runs), 10000)
        self.assertEqual((Walk("ee") * Walk(STAIR)).runs[0], ("e", 3))
        assert_raises(self, TooMany, {"most": 10000}, lambda: Walk(STAIR) * Walk("e"))
        assert_raises(self, TooMany, {"most": 10000}, lambda: Walk(STAIR) * Walk(STAIR))
        assert_raises(self, TooMany, {"most": 10000}, lambda: Walk("n") * Walk(STAIR))

    def test_way_back(self):
        self.assertEqual((~Walk("eenw")).runs, (("e", 1), ("s", 1), ("w", 2)))
        for told in TEXTS + [VAST, STAIR]:
            walk = Walk(told)
            self.assertEqual((~walk).place(), ~walk.place())
            self.assertEqual(~~walk, walk)
            self.assertEqual((~walk).length, walk.length)


class PartsTest(unittest.TestCase):
    def test_head_tail_and_at(self):
        for text in TEXTS + texts_up_to(4):
            walk = Walk(text)
            for number in range(len(text) + 1):
                self.assertEqual(walk.head(number).letters(), text[:number])
                self.assertEqual(walk.tail(number).letters(), text[number:])
                self.assertEqual(figures_of(walk.at(number)), end_of(text[:number]))

    def test_great_numbers(self):
        walk = Walk(VAST)
        self.assertEqual(walk.head(HUGE + 5).runs, (("e", HUGE), ("n", 3), ("w", 2)))
        self.assertEqual(walk.tail(6 * HUGE).runs, (("w", 3), ("s", HUGE), ("e", 1)))
        self.assertEqual(figures_of(walk.at(HUGE + 1)), (HUGE, 1, HUGE))
        self.assertEqual(walk.head(walk.length), walk)
        self.assertEqual(walk.tail(walk.length), Walk(""))

    def test_wrong_numbers(self):
        for walk in (Walk(""), Walk("eenw"), Walk(VAST)):
            for call in (walk.head, walk.tail, walk.at):
                for value in no_whole_numbers() + [-1, walk.length + 1, 10 * HUGE]:
                    assert_raises(self, BadNumber, {"value": value}, call, value)


class OtherWalksTest(unittest.TestCase):
    def test_turned(self):
        self.assertEqual(Walk("eenws").turned(1).letters(), "nnwse")
        self.assertEqual(Walk("eenws").turned(-1).letters(), "ssenw")
        self.assertEqual(Walk("eenws").turned(2).letters(), "wwsen")
        for told in TEXTS + [VAST]:
            walk = Walk(told)
            self.assertEqual(walk.turned(0), walk)
            self.assertEqual(walk.turned(4 * HUGE), walk)
            self.assertEqual(walk.turned(4 * HUGE + 3), walk.turned(-1))
            self.assertEqual(walk.turned(1 - 4 * HUGE).turned(-1), walk)

    def test_mirrored(self):
        self.assertEqual(Walk("eenws").mirrored().letters(), "wwnes")
        for told in TEXTS + [VAST]:
            self.assertEqual(Walk(told).mirrored().mirrored(), Walk(told))

    def test_ground(self):
        def ground(walk):
            place = walk.place()
            return 2 * place.area - place.x * place.y
        for told in TEXTS + [VAST]:
            walk = Walk(told)
            for quarters in range(-4, 5):
                self.assertEqual(ground(walk.turned(quarters)), ground(walk))
            self.assertEqual(ground(walk.mirrored()), -ground(walk))

    def test_wrong_quarters(self):
        for value in no_integers():
            assert_raises(self, BadNumber, {"value": value}, Walk("en").turned, value)

    def test_repeated(self):
        for text in TEXTS:
            for number in range(5):
                self.assertEqual(Walk(text).repeated(number).letters(), text * number)
        self.assertEqual(Walk("").repeated(HUGE), Walk(""))
        self.assertEqual(Walk("ww").repeated(HUGE).runs, (("w", 2 * HUGE),))
        self.assertEqual(Walk(VAST).repeated(0), Walk(""))
        self.assertEqual(Walk(VAST).repeated(3).place(), Walk(VAST).place().power(3))

    def test_most_runs_of_repeated(self):
        self.assertEqual(len(Walk("en").repeated(5000).runs), 10000)
        self.assertEqual(len(Walk("ene").repeated(4999).runs), 9999)
        self.assertEqual(len(Walk("enwe").repeated(3333).runs), 10000)
        self.assertEqual(Walk(STAIR).repeated(1), Walk(STAIR))
        for text, number in (("en", 5001), ("ene", 5000), ("enwe", 3334), ("en", HUGE), ("ene", HUGE)):
            assert_raises(self, TooMany, {"most": 10000}, Walk(text).repeated, number)
        assert_raises(self, TooMany, {"most": 10000}, Walk(STAIR).repeated, 2)

    def test_wrong_times(self):
        for walk in (Walk(""), Walk("e"), Walk("en")):
            for value in no_whole_numbers():
                assert_raises(self, BadNumber, {"value": value}, walk.repeated, value)


class LeastTest(unittest.TestCase):
    def test_examples(self):
        self.assertIs(Walk("eenw").is_least(), True)
        self.assertIs(Walk("ennwwss").is_least(), True)
        self.assertIs(Walk("enwsen").is_least(), False)
        self.assertEqual(Walk("enwsen").first_not_least(), 5)
        self.assertEqual(figures_of(Walk("enwse").place()), figures_of(Walk("sen").place()))
        self.assertIs(Walk("").is_least(), True)
        self.assertIsNone(Walk("").first_not_least())
        self.assertEqual(Walk("ew").first_not_least(), 2)

    def test_all_texts(self):
        fewest = listed_steps(6)
        for text in texts_up_to(6):
            parts = [number for number in range(len(text) + 1) if fewest[end_of(text[:number])] < number]
            walk = Walk(text)
            self.assertEqual(walk.is_least(), fewest[end_of(text)] == len(text), text)
            self.assertEqual(walk.first_not_least(), parts[0] if parts else None, text)

    def test_longer_rounds(self):
        fewest = listed_steps(14)
        for sides in itertools.product((1, 2, 3), (1, 2, 3), (1, 2, 3), (1, 2, 3), (0, 1, 2)):
            text = "".join(letter * times for letter, times in zip("enwse", sides))
            parts = [number for number in range(len(text) + 1) if fewest[end_of(text[:number])] < number]
            self.assertEqual(Walk(text).first_not_least(), parts[0] if parts else None, text)
            self.assertEqual(Walk(text).is_least(), not parts, text)

    def test_great_numbers(self):
        square = Walk([("e", HUGE), ("n", HUGE), ("w", HUGE), ("s", HUGE)])
        self.assertIs(square.is_least(), True)
        self.assertIsNone(square.first_not_least())
        further = square * Walk("s")
        self.assertIs(further.is_least(), False)
        self.assertEqual(further.first_not_least(), 4 * HUGE + 1)
        back = Walk([("n", HUGE), ("s", HUGE)])
        self.assertEqual(back.first_not_least(), HUGE + 1)
        round_about = Walk([("e", 2 * HUGE), ("n", 1), ("w", HUGE)])
        self.assertEqual(round_about.first_not_least(), 2 * HUGE + 3)
        self.assertIs(round_about.is_least(), False)

    def test_the_beginning_told_is_the_shortest(self):
        for last in (("w", 3 * HUGE), ("s", HUGE)):
            walk = Walk([("s", 5), ("e", HUGE), ("n", HUGE), ("w", HUGE), last])
            number = walk.first_not_least()
            self.assertFalse(walk.head(number).is_least())
            self.assertTrue(walk.head(number - 1).is_least())

    def test_many_runs(self):
        self.assertIs(Walk(STAIR).is_least(), True)
        self.assertIsNone(Walk(STAIR).first_not_least())
        long = Walk([("e", HUGE), ("n", HUGE)] * 5000)
        self.assertIsNone(long.first_not_least())
        self.assertEqual((Walk([("n", HUGE)] + STAIR[1:9999]) * Walk("w")).first_not_least(), HUGE + 9999)
        crossing = Walk([("e", HUGE), ("n", 1), ("w", HUGE), ("n", 1)] * 2500)
        number = crossing.first_not_least()
        self.assertFalse(crossing.head(number).is_least())
        self.assertTrue(crossing.head(number - 1).is_least())


class UnchangedTest(unittest.TestCase):
    def test_nothing_is_changed(self):
        walk, other = Walk("enwsen"), Walk("ss")
        runs = walk.runs
        walk * other, ~walk, walk.place(), walk.letters(), walk.head(2), walk.tail(2), walk.at(2), walk.sides()
        walk.turned(1), walk.mirrored(), walk.repeated(2), walk.is_least(), walk.first_not_least()
        assert_raises(self, BadNumber, {"value": 7}, walk.head, 7)
        self.assertEqual(walk.runs, runs)
        self.assertEqual(other, Walk("ss"))
        self.assertEqual(home_place(), Walk("").place())


if __name__ == "__main__":
    unittest.main()
