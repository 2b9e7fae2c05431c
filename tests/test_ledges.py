"""What tables need of integers: greatest common divisors, and orders by a modulus."""

import itertools
import math
import unittest

from areawalks.ledges import bezout, is_multiple, order_of, reduced
from tests.samples import HUGE


class LedgesTest(unittest.TestCase):
    def test_bezout(self):
        numbers = [0, 1, -1, 2, -3, 4, 6, -6, 35, HUGE, -HUGE, 6 * HUGE]
        for first, second in itertools.product(numbers, repeat=2):
            by_first, by_second = bezout(first, second)
            self.assertEqual(by_first * first + by_second * second, math.gcd(first, second))

    def test_order_of(self):
        for value, modulus in itertools.product(range(-9, 10), range(1, 13)):
            orders = [number for number in range(1, 13) if number * value % modulus == 0]
            self.assertEqual(order_of(value, modulus), orders[0])
        self.assertEqual(order_of(0, 0), 1)
        self.assertIsNone(order_of(5, 0))

    def test_multiples_and_rests(self):
        self.assertTrue(is_multiple(0, 0) and is_multiple(-6, 3) and is_multiple(7, 1))
        self.assertFalse(is_multiple(1, 0) or is_multiple(-7, 3))
        self.assertEqual([reduced(-7, 0), reduced(-7, 3), reduced(6, 3)], [-7, 2, 0])


if __name__ == "__main__":
    unittest.main()
