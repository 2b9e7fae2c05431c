"""Promises 2, 30, 56 and 61: paths, and their areas but for multiples of a number."""

import itertools
import random
import unittest
from math import comb

from areawalks.errors import BadNumber, TooFar
from areawalks.paths import far_paths, paths, paths_by_rest
from tests.samples import HUGE, assert_raises, end_of, is_integer, no_whole_numbers, values_of_all_kinds

FAR = 10 ** 99 + 289
PRIMES = (2, 3, 5, 7, 29, 31, 97, 2003, 4993, 4999)


def listed_rows(most):
    """How many paths to each (x, y) have each area, by their last steps."""
    rows = {}
    for x, y in itertools.product(range(most + 1), repeat=2):
        row = [0] * (x * y + 1)
        if x == 0 or y == 0:
            row[0] = 1
        else:
            for area, number in enumerate(rows[x - 1, y]):
                row[area] += number
            for area, number in enumerate(rows[x, y - 1]):
                row[area + x] += number
        rows[x, y] = row
    return rows


ROWS = listed_rows(24)


def binomial_rest(top, low, prime):
    """A binomial but for multiples of a prime, figure by figure."""
    product = 1
    while top > 0:
        product = product * comb(top % prime, low % prime) % prime
        top, low = top // prime, low // prime
    return product


class PathsTest(unittest.TestCase):
    def test_examples(self):
        self.assertEqual([paths(2, 2, area) for area in range(6)], [1, 1, 2, 1, 1, 0])
        self.assertEqual(paths(y=3, area=2, x=2), 2)

    def test_all_short_paths(self):
        for x, y in itertools.product(range(5), repeat=2):
            found = [end_of(letters)[2] for letters in set(itertools.permutations("e" * x + "n" * y))]
            for area in range(x * y + 3):
                self.assertEqual(paths(x, y, area), found.count(area))

    def test_longer_paths(self):
        for x, y in itertools.product(range(15), repeat=2):
            for area, number in enumerate(ROWS[x, y]):
                self.assertEqual(paths(x, y, area), number)
            self.assertEqual(paths(x, y, x * y + 1), 0)
        for x, y in ((24, 24), (24, 1), (3, 24), (23, 17)):
            self.assertEqual([paths(x, y, area) for area in range(x * y + 1)], ROWS[x, y])

    def test_farthest_paths(self):
        self.assertEqual(sum(paths(60, 12, area) for area in range(721)), comb(72, 12))
        for x, y in ((60, 60), (60, 59), (37, 60)):
            self.assertEqual([paths(x, y, area) for area in range(6)], [1, 1, 2, 3, 5, 7])
            for area in (0, 1, 500, x * y // 2):
                self.assertEqual(paths(x, y, area), paths(y, x, x * y - area))
                # The last step is east or north.
                if area >= x:
                    self.assertEqual(paths(x, y, area), paths(x - 1, y, area) + paths(x, y - 1, area - x))
        self.assertEqual(paths(60, 0, 0), 1)
        self.assertEqual((paths(60, 60, 3601), paths(60, 60, FAR), paths(0, 0, 0), paths(0, 5, 1)), (0, 0, 1, 0))

    def test_wrong_values(self):
        for value in no_whole_numbers():
            for at in range(3):
                told = [61, 61, 61]
                told[at] = value
                assert_raises(self, BadNumber, {"value": value}, paths, *told)
                assert_raises(self, BadNumber, {"value": value}, paths, *told[:at + 1], *["later"] * (2 - at))
        for value in (61, 62, 2000, FAR):
            assert_raises(self, TooFar, {"number": value}, paths, value, 60, 1)
            assert_raises(self, TooFar, {"number": value}, paths, 60, value, 1)
            assert_raises(self, TooFar, {"number": value}, paths, value, 99, 1)
            assert_raises(self, TooFar, {"number": value}, paths, value, 0, 0)


class RestsTest(unittest.TestCase):
    def test_examples(self):
        self.assertEqual([paths_by_rest(2, 2, 2, rest) for rest in range(2)], [4, 2])
        self.assertEqual(far_paths(2, 2, 3, 1, 7), 2)
        self.assertEqual(paths_by_rest(rest=1, modulus=2, y=2, x=2), 2)
        self.assertEqual(far_paths(prime=7, rest=1, modulus=3, y=2, x=2), 2)

    def test_all_rests_of_short_paths(self):
        for x, y in itertools.product(range(8), repeat=2):
            for modulus in range(1, 31):
                for rest in range(modulus):
                    number = sum(ROWS[x, y][rest::modulus])
                    self.assertEqual(paths_by_rest(x, y, modulus, rest), number)
                    prime = PRIMES[(x + rest) % len(PRIMES)]
                    if modulus % prime != 0:
                        self.assertEqual(far_paths(x, y, modulus, rest, prime), number % prime)

    def test_longer_paths(self):
        for x, y in ((24, 24), (24, 23), (17, 24), (24, 1), (0, 24), (13, 19)):
            for modulus in (1, 2, 6, 7, 12, 24, 25, 29, 30):
                for rest in range(modulus):
                    number = sum(ROWS[x, y][rest::modulus])
                    self.assertEqual(paths_by_rest(x, y, modulus, rest), number)
                    for prime in PRIMES:
                        if modulus % prime != 0:
                            self.assertEqual(far_paths(x, y, modulus, rest, prime), number % prime)
        for rest in range(30):
            number = sum(paths(60, 9, area) for area in range(rest, 541, 30))
            self.assertEqual(paths_by_rest(60, 9, 30, rest), number)

    def test_all_rests_together(self):
        for x, y in ((2000, 2000), (1999, 2000), (2000, 7), (0, 2000), (61, 1001)):
            for modulus in (1, 2, 15, 30):
                numbers = [paths_by_rest(x, y, modulus, rest) for rest in range(modulus)]
                self.assertEqual(sum(numbers), comb(x + y, x))
                self.assertTrue(min(numbers) >= 0)

    def test_last_steps(self):
        chance = random.Random(56)
        for _ in range(60):
            x, y, modulus = chance.randint(1, 2000), chance.randint(1, 2000), chance.randint(1, 30)
            rest = chance.randrange(modulus)
            before = paths_by_rest(x - 1, y, modulus, rest) + paths_by_rest(x, y - 1, modulus, (rest - x) % modulus)
            self.assertEqual(paths_by_rest(x, y, modulus, rest), before)
            for prime in PRIMES:
                if modulus % prime != 0:
                    self.assertEqual(far_paths(x, y, modulus, rest, prime), before % prime)

    def test_far_paths(self):
        for x, y in ((FAR, FAR), (FAR, 3), (0, FAR), (FAR // 7, FAR * 9), (2001, 2001), (61, 2001), (4999, 4999 * 4998)):
            for modulus, prime in itertools.product((1, 2, 9, 29, 30), PRIMES):
                if modulus % prime != 0:
                    numbers = [far_paths(x, y, modulus, rest, prime) for rest in range(modulus)]
                    self.assertTrue(all(0 <= number < prime for number in numbers))
                    self.assertEqual(sum(numbers) % prime, binomial_rest(x + y, x, prime))

    def test_far_last_steps(self):
        for x, y, modulus in ((FAR, FAR + 1, 30), (FAR + 5, FAR // 3, 28), (FAR, 2, 17), (1, FAR, 24), (2001, 61, 30)):
            for rest, prime in ((0, 4999), (7, 31), (13, 4993), (1, 97)):
                before = far_paths(x - 1, y, modulus, rest, prime)
                before += far_paths(x, y - 1, modulus, (rest - x) % modulus, prime)
                self.assertEqual(far_paths(x, y, modulus, rest, prime), before % prime)

    def test_figures_that_do_not_carry(self):
        # The prime does not divide the binomials of such numbers.
        for prime in (7, 97, 4993, 4999):
            x = sum(at * 37 % (prime // 2) * prime ** at for at in range(1, 26))
            y = sum((at * 53 % (prime // 2) + 1) * prime ** at for at in range(1, 26))
            for modulus, across in itertools.product((1, 8, 30), (0, 1, 2)):
                numbers = [far_paths(x + across, y, modulus, rest, prime) for rest in range(modulus)]
                self.assertNotEqual(sum(numbers) % prime, 0)
                self.assertEqual(sum(numbers) % prime, binomial_rest(x + across + y, x + across, prime))
                for rest in (0, modulus // 3):
                    before = far_paths(x + across, y + 1, modulus, rest, prime)
                    before += far_paths(x + across + 1, y, modulus, (rest - x - across - 1) % modulus, prime)
                    self.assertEqual(far_paths(x + across + 1, y + 1, modulus, rest, prime), before % prime)

    def test_wrong_kinds(self):
        for value in values_of_all_kinds():
            for at, least in enumerate((0, 0, 1, 0, 2)):
                if is_integer(value) and value >= least:
                    continue
                told = [2001, 2001, 31, 31, 4]
                told[at] = value
                behind = told[:at + 1] + ["later"] * (4 - at)
                for given in (told, behind):
                    if at < 4:
                        assert_raises(self, BadNumber, {"value": value}, paths_by_rest, *given[:4])
                    assert_raises(self, BadNumber, {"value": value}, far_paths, *given)

    def test_wrong_sizes(self):
        for value in (31, 32, FAR):
            for rest in (0, value + 1):
                assert_raises(self, BadNumber, {"value": value}, paths_by_rest, 2001, 2, value, rest)
                assert_raises(self, BadNumber, {"value": value}, far_paths, 2, 2, value, rest, 4)
        for modulus in (1, 2, 29, 30):
            for rest in (modulus, modulus + 1, FAR):
                assert_raises(self, BadNumber, {"value": rest}, paths_by_rest, 2001, 2, modulus, rest)
                assert_raises(self, BadNumber, {"value": rest}, far_paths, 2, 2, modulus, rest, 4)
        for value in (2001, FAR, HUGE):
            assert_raises(self, TooFar, {"number": value}, paths_by_rest, value, 2000, 30, 29)
            assert_raises(self, TooFar, {"number": value}, paths_by_rest, 2000, value, 30, 29)
            assert_raises(self, TooFar, {"number": value}, paths_by_rest, value, 3000, 30, 29)
        self.assertEqual(paths_by_rest(2000, 0, 30, 0), 1)

    def test_wrong_primes(self):
        for value in (4, 6, 9, 15, 25, 49, 4997, 4998, 5000, 5001, 5003, FAR, 67 * 71):
            assert_raises(self, BadNumber, {"value": value}, far_paths, 2, 2, 30, 29, value)
            assert_raises(self, BadNumber, {"value": value}, far_paths, 2, 2, 1, 0, value)
        for modulus, prime in ((2, 2), (30, 2), (30, 3), (30, 5), (29, 29), (9, 3), (26, 13)):
            assert_raises(self, BadNumber, {"value": prime}, far_paths, 2, 2, modulus, 0, prime)
        self.assertEqual(far_paths(2, 2, 1, 0, 2), 0)
        self.assertEqual(far_paths(2, 2, 1, 0, 4999), 6)


if __name__ == "__main__":
    unittest.main()
