"""The tables of an index, and how many there are."""

from math import isqrt

from areawalks.checks import is_integer
from areawalks.errors import BadNumber, TooFar, TooMany
from areawalks.places import Place
from areawalks.tables import Table

FARTHEST = 1000000


def count_tables(index, *, normal=False):
    """How many tables have the index; only the normal ones if normal is True."""
    check_index(index)
    # A table of an index is one of each greatest power of a prime in it, put together.
    total = 1
    for prime, exponent in prime_powers(index):
        total = total * count_prime_tables(prime, exponent, normal)
    return total


def tables_of(index, *, normal=False, most=500):
    """All tables of the index; only the normal ones if normal is True."""
    if count_tables(index, normal=normal) > most:
        raise TooMany(most)
    tables = []
    for home in divisors(index):
        if index // home % home == 0:
            for first, second in end_pairs(index // home, home if normal else 1):
                tables.extend(tables_over(first, second, home))
    return tables


def check_index(value):
    """Refuses what is no integer from 1 on, and what is too far away."""
    if not is_integer(value) or value < 1:
        raise BadNumber(value)
    if value > FARTHEST:
        raise TooFar(value)


def prime_powers(number):
    """The pairs (prime, exponent) of a number from 1 on."""
    pairs = []
    prime = 2
    while prime * prime <= number:
        exponent = 0
        while number % prime == 0:
            number = number // prime
            exponent += 1
        if exponent > 0:
            pairs.append((prime, exponent))
        prime += 1
    return pairs if number == 1 else [*pairs, (number, 1)]


def count_prime_tables(prime, exponent, normal):
    """How many tables have this power of a prime as their index."""
    # A home number c leaves areas for c * c tables over each lattice of the index / c. If they are
    # normal, these lattices are such of the index / (c * c * c), enlarged by c.
    smaller, least = (3, 0) if normal else (1, exponent - exponent // 2)
    total = 0
    square = 1
    while exponent >= least:
        total = total + square * count_lattices(prime, exponent)
        square = square * prime * prime
        exponent -= smaller
    return total


def count_lattices(prime, exponent):
    """How many lattices have this power of a prime as p * s: the sum of its divisors."""
    total = 0
    for _ in range(exponent + 1):
        total = total * prime + 1
    return total


def divisors(number):
    """All divisors of a number from 1 on, ascending."""
    low = [part for part in range(1, isqrt(number) + 1) if number % part == 0]
    return low + [number // part for part in low[::-1] if part * part != number]


def end_pairs(volume, unit):
    """The ends of all ledges with two places and this p * s, all numbers multiples of the unit."""
    pairs = []
    for across in divisors(volume):
        up = volume // across
        if across % unit == 0 and up % unit == 0:
            pairs.extend([((across, slant), (0, up)) for slant in range(0, up, unit)])
    return pairs


def tables_over(first, second, home):
    """The tables of this home number whose ledges have these ends."""
    areas = [(low, high) for low in range(home) for high in range(home)]
    return [Table([Place(*first, low), Place(*second, high), Place(0, 0, home)]) for low, high in areas]
