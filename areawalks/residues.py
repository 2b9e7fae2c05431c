"""Numbers but for multiples of a prime."""

from areawalks.indexes import prime_powers
from areawalks.ledges import bezout


def is_prime(number):
    """Whether a number from 2 on is a prime."""
    return prime_powers(number) == [(number, 1)]


def inverse(number, prime):
    """The rest whose product with the number leaves 1 by the prime, which does not divide the number."""
    return bezout(number, prime)[0] % prime


def factorial_rests(most, prime):
    """The rests by a prime of the factorials of 0 to most, which is below it."""
    rest = 1
    rests = [rest]
    for number in range(1, most + 1):
        rest = rest * number % prime
        rests.append(rest)
    return rests


def figure_pairs(top, low, prime):
    """The figures of two numbers, written to the base of a prime, side by side; None if it divides their binomial."""
    pairs = []
    while top > 0:
        top, figure = divmod(top, prime)
        low, other = divmod(low, prime)
        if other > figure:
            return None
        pairs.append((figure, other))
    return pairs


def binomial_rest(pairs, prime, factorials):
    """The rest of a binomial of which the pairs of figures are told, and the rests of their factorials."""
    over, under = 1, 1
    # But for multiples of the prime it is the product of the binomials of all pairs.
    for figure, other in pairs:
        over = over * factorials[figure] % prime
        under = under * factorials[other] * factorials[figure - other] % prime
    return over * inverse(under, prime) % prime
