"""Promises 2, 7, 28, 54 and 61: steps that have prices."""

import heapq
import itertools
import random
import unittest
from math import isqrt

from areawalks.bargains import Bargain, cheapest_frame
from areawalks.errors import BadNumber
from areawalks.least import least_walk, steps
from areawalks.places import Place
from areawalks.prices import Prices
from areawalks.walks import Walk
from tests.samples import HUGE, assert_raises, figures_of, stepped, values_of_all_kinds

LIKE = Prices(1, 1, 1, 1)
SMALL = [(1, 1, 1, 1), (1, 5, 1, 5), (2, 1, 3, 1), (1, 2, 4, 3), (4, 1, 1, 4), (3, 3, 1, 5), (7, 1, 1, 1)]
SPREAD = SMALL + [
    (1, 1, 1, 1000), (1000, 1, 1, 1), (1000, 1000, 1000, 1000), (1000, 1, 1000, 1), (1, 1000, 1, 1000),
    (997, 991, 983, 1000), (999, 1000, 1000, 1000), (13, 700, 1, 64)]
VAST = [
    Place(0, 0, HUGE), Place(0, 0, -HUGE), Place(HUGE, 0, 0), Place(0, -HUGE, HUGE * HUGE), Place(-HUGE, HUGE, 1),
    Place(HUGE, HUGE, HUGE * HUGE), Place(HUGE, HUGE, -1), Place(HUGE, 3, HUGE * HUGE + 1), Place(3, -HUGE, 5 * HUGE),
    Place(1, 0, HUGE * HUGE), Place(-7, -HUGE, HUGE ** 2 * 9 // 10), Place(HUGE // 3, HUGE, -HUGE ** 2 // 2)]


def listed_prices(told, most):
    """The least price of a walk to each place with at most so much, by (x, y, area), walk by walk."""
    prices = dict(zip("enws", told))
    found = {}
    heap = [(0, (0, 0, 0))]
    while heap:
        price, point = heapq.heappop(heap)
        if point not in found and price <= most:
            found[point] = price
            for letter in "enws":
                heapq.heappush(heap, (price + prices[letter], stepped(point, letter)))
    return found


def slowly_framed(across, up, product, wide, high):
    """The least cost of a frame, width by width."""
    if across * up >= product:
        return wide * across + high * up
    best = None
    for width in itertools.count(max(across, 1)):
        height = max(up, -(-product // width))
        cost = wide * width + high * height
        best = cost if best is None else min(best, cost)
        if wide * width > best or height <= up:
            return best


def product_wanted(place):
    flat = place.x * place.y
    return max(place.area + max(0, -flat), max(0, flat) - place.area)


class PricesTest(unittest.TestCase):
    def assert_cheapest(self, prices, place):
        """The frame and the walk have the least price, which is that of the frame."""
        width, height = prices.frame(place)
        self.assertGreaterEqual(width, abs(place.x))
        self.assertGreaterEqual(height, abs(place.y))
        self.assertGreaterEqual(width * height, product_wanted(place))
        straight = abs(place.x) * (prices.east if place.x > 0 else prices.west)
        straight += abs(place.y) * (prices.north if place.y > 0 else prices.south)
        around = (prices.east + prices.west) * (width - abs(place.x))
        around += (prices.north + prices.south) * (height - abs(place.y))
        self.assertEqual(prices.least_price(place), straight + around)
        walk = prices.cheapest(place)
        self.assertIsInstance(walk, Walk)
        self.assertEqual(figures_of(walk.place()), figures_of(place))
        self.assertEqual(prices.price_of(walk), straight + around)

    def test_examples(self):
        unlike = Prices(1, 5, 1, 5)
        self.assertEqual(LIKE.least_price(Place(0, 0, 6)), 10)
        self.assertEqual(unlike.least_price(Place(0, 0, 6)), 22)
        self.assertEqual(unlike.frame(Place(0, 0, 6)), (6, 1))
        self.assertEqual(LIKE.least_price(Place(3, -2, 0)), 5)
        self.assertEqual(LIKE.least_price(Place(3, -2, 1)), 7)
        self.assertEqual(LIKE.least_price(Place(0, 0, 10 ** 60)), 4 * 10 ** 30)
        self.assertEqual(unlike.cheapest(Place(0, 0, 6)).place(), Place(0, 0, 6))

    def test_attributes_and_names(self):
        prices = Prices(south=4, west=3, north=2, east=1)
        self.assertEqual((prices.east, prices.north, prices.west, prices.south), (1, 2, 3, 4))
        place = Place(2, -1, 9)
        self.assertEqual(prices.price_of(walk=prices.cheapest(place=place)), prices.least_price(place=place))
        self.assertIs(prices.frame(place=place).__class__, tuple)

    def test_equal_by_value(self):
        for one, other in itertools.product(SPREAD, repeat=2):
            self.assertIs(Prices(*one) == Prices(*other), one == other)
            self.assertIs(Prices(*one) != Prices(*other), one != other)
        for other in ((1, 1, 1, 1), [1, 1, 1, 1], None, 4, Walk("enws")):
            self.assertFalse(LIKE == other)

    def test_price_of(self):
        prices = Prices(1, 10, 100, 1000)
        for text in ("", "e", "n", "w", "s", "eenw", "ssswnee", "ewew"):
            price = text.count("e") + 10 * text.count("n") + 100 * text.count("w") + 1000 * text.count("s")
            self.assertEqual(prices.price_of(Walk(text)), price)
        self.assertEqual(prices.price_of(Walk([("s", HUGE), ("e", 2), ("s", 1)])), 1000 * HUGE + 1002)

    def test_near_places_by_listing(self):
        for told in SMALL:
            prices = Prices(*told)
            found = listed_prices(told, 8 * min(told[0] + told[2], told[1] + told[3]) // 2 + 4)
            self.assertGreater(len(found), 100)
            for point, price in found.items():
                self.assertEqual(prices.least_price(Place(*point)), price, (told, point))
                self.assert_cheapest(prices, Place(*point))

    def test_frames_by_trying(self):
        chance = random.Random(28)
        for _ in range(3000):
            most = chance.choice((3, 20, 2000))
            wide, high = chance.randint(2, most), chance.randint(2, most)
            across, up = [chance.randint(0, chance.choice((1, 3, 10, 60))) for _ in range(2)]
            product = chance.randint(0, chance.choice((3, 30, 900)))
            width, height = cheapest_frame(across, up, product, wide, high)
            self.assertTrue(width >= across and height >= up and width * height >= product)
            self.assertEqual(wide * width + high * height, slowly_framed(across, up, product, wide, high))

    def test_both_ways_to_find_frames(self):
        chance = random.Random(29)
        for _ in range(1000):
            high, wide = sorted([chance.randint(2, chance.choice((9, 2000))) for _ in range(2)])
            product = chance.randint(2, chance.choice((10, 10 ** 4, 10 ** 7)))
            reaches = 1, 9, isqrt(product), 2 * isqrt(product), 2 * product
            across, up = [chance.randint(0, chance.choice(reaches)) for _ in range(2)]
            if across * up < product:
                bargain = Bargain(across, up, product, wide, high)
                costs = []
                for width, height in (bargain.frame_by_costs(), bargain.best(), bargain.frame_by_widths(max(across, 1))):
                    self.assertTrue(width >= across and height >= up and width * height >= product)
                    costs.append(wide * width + high * height)
                self.assertEqual(costs[0], costs[1])
                self.assertLessEqual(costs[0], costs[2])

    def test_equal_prices_tell_steps(self):
        for point in itertools.product(range(-3, 4), range(-3, 4), range(-12, 13)):
            place = Place(*point)
            for price in (1, 7, 1000):
                self.assertEqual(Prices(price, price, price, price).least_price(place), price * steps(place))
        for place in VAST:
            self.assertEqual(LIKE.least_price(place), steps(place))
            self.assertEqual(LIKE.cheapest(place).length, least_walk(place).length)

    def test_great_numbers(self):
        for told in SPREAD:
            for place in VAST:
                for storeys in (-HUGE, -1, 0, 1, HUGE):
                    self.assert_cheapest(Prices(*told), place.lifted(storeys))

    def test_frames_of_greater_numbers_by_trying(self):
        for told, product in itertools.product(SPREAD, (10 ** 4 + 7, 10 ** 7 + 19, 10 ** 9 + 7, 10 ** 11 + 3)):
            wide, high = told[0] + told[2], told[1] + told[3]
            middle = isqrt(high * product // wide)
            # Farther away from the best width the cost is more than one height too great.
            reach = isqrt(high * middle // wide) + 2
            if reach < 4000:
                widths = range(max(1, middle - reach), middle + reach + 1)
                least = min(wide * width + high * -(-product // width) for width in widths)
                self.assertEqual(Prices(*told).least_price(Place(0, 0, product)), least)
                self.assertEqual(Prices(*told).least_price(Place(0, 0, -product)), least)

    def test_areas_at_the_ends_of_the_middle(self):
        # From 0 to x * y no step is taken back; just beyond it one is.
        for told in SPREAD:
            prices = Prices(*told)
            for x, y in ((4, 3), (-4, 3), (4, -3), (-4, -3), (1, 1), (HUGE, 2), (-5, HUGE)):
                straight = abs(x) * told[0 if x > 0 else 2] + abs(y) * told[1 if y > 0 else 3]
                low, high = sorted([0, x * y])
                beyond = min(told[0] + told[2], told[1] + told[3])
                for area in (low, (low + high) // 2, high):
                    self.assertEqual(prices.least_price(Place(x, y, area)), straight)
                    self.assertEqual(prices.frame(Place(x, y, area)), (abs(x), abs(y)))
                for area in (low - 1, high + 1):
                    self.assertEqual(prices.least_price(Place(x, y, area)), straight + beyond)

    def test_places_over_home_and_on_lines(self):
        for told in SPREAD:
            prices = Prices(*told)
            wide, high = told[0] + told[2], told[1] + told[3]
            self.assertEqual((prices.least_price(Place(0, 0, 0)), prices.frame(Place(0, 0, 0))), (0, (0, 0)))
            self.assertEqual(prices.cheapest(Place(0, 0, 0)), Walk(""))
            for area in (1, -1):
                self.assertEqual(prices.least_price(Place(0, 0, area)), wide + high)
                self.assertEqual(prices.least_price(Place(5, 0, area)), 5 * told[0] + high)
                self.assertEqual(prices.least_price(Place(0, -5, area)), 5 * told[3] + wide)
            self.assertEqual(prices.least_price(Place(5, 0, 0)), 5 * told[0])
            self.assertEqual(prices.least_price(Place(0, -5, 0)), 5 * told[3])
            for area in range(-40, 41):
                for place in (Place(0, 0, area), Place(7, 0, area), Place(0, -7, area)):
                    self.assert_cheapest(prices, place)
                    cost = prices.least_price(place) - abs(place.x) * told[0] - abs(place.y) * told[3]
                    least = slowly_framed(abs(place.x), abs(place.y), abs(area), wide, high)
                    self.assertEqual(cost, least - abs(place.x) * wide - abs(place.y) * high)

    def test_wrong_values(self):
        wrong = [0, -1, 1001, HUGE, -HUGE, *[
            value for value in values_of_all_kinds() if not isinstance(value, int) or isinstance(value, bool)]]
        for value in wrong:
            for at in range(4):
                told = [1, 1000, 1, 1000]
                told[at] = value
                assert_raises(self, BadNumber, {"value": value}, Prices, *told)
                assert_raises(self, BadNumber, {"value": value}, Prices, *told[:at + 1], *["later"] * (3 - at))
        self.assertEqual(Prices(1000, 1, 1000, 1).east, 1000)


if __name__ == "__main__":
    unittest.main()
