"""Numbers but for multiples of a prime."""

from areawalks.indexes import prime_powers
from areawalks.ledges import bezout


def is_prime(number):
    """Whether a number from 2 on is a prime."""
    return prime_powers(number) == [(number, 1)]


def inverse(number, prime):
    """The rest whose product with the number leaves 1 by the prime, which does not divide the number."""
    return bezout(number, prime)[0] % prime


def factorial_rests(most, prime):
    """The rests of the factorials of 0 to most, which are below the prime."""
    rests = [1]
    for number in range(1, most + 1):
        rests.append(rests[-1] * number % prime)
    return rests


def binomial_rest(top, low, prime, factorials):
    """The rest by a prime of a binomial, told the rests of all factorials of figures that top and low have."""
    over, under = 1, 1
    # Written in figures to the base of the prime, top and low have the binomial of all their figures.
    while top > 0:
        top, figure = divmod(top, prime)
        low, other = divmod(low, prime)
        if other > figure:
            return 0
        over = over * factorials[figure] % prime
        under = under * factorials[other] * factorials[figure - other] % prime
    return over * inverse(under, prime) % prime
