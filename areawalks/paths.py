"""How many paths, which are walks with steps east and north only, have an area."""

from math import comb

from areawalks.checks import check_from, check_whole
from areawalks.errors import BadNumber, TooFar
from areawalks.indexes import divisors
from areawalks.residues import binomial_rest, factorial_rests, figure_pairs, inverse, is_prime
from areawalks.shares import packed_paths, slot_of, weight_of

FARTHEST = 60
FARTHEST_BY_REST = 2000
MOST_MODULUS = 30
MOST_PRIME = 5000


def paths(x, y, area):
    """How many paths to (x, y) have the area."""
    for value in (x, y, area):
        check_whole(value)
    check_near(x, y, FARTHEST)
    if area > x * y:
        return 0
    slot = slot_of(x, y)
    # As many paths have an area as have it less than x * y, and the lowest slot of the pack is the last area's.
    return packed_paths(x, y, min(area, x * y - area) + 1, slot) & (1 << slot) - 1


def paths_by_rest(x, y, modulus, rest):
    """How many paths to (x, y) have an area that leaves this rest by the modulus."""
    check_rest_numbers(x, y, modulus, rest)
    check_rest(modulus, rest)
    check_near(x, y, FARTHEST_BY_REST)
    total = 0
    for part in divisors(modulus):
        weight = weight_of(x, y, part, rest)
        if weight != 0:
            total = total + weight * comb((x + y) // part, x // part)
    return total // modulus


def far_paths(x, y, modulus, rest, prime):
    """The rest by a prime of how many paths to (x, y) have an area that leaves this rest by the modulus."""
    check_rest_numbers(x, y, modulus, rest)
    check_from(prime, 2)
    check_rest(modulus, rest)
    if prime > MOST_PRIME or not is_prime(prime) or modulus % prime == 0:
        raise BadNumber(prime)
    # Of most great numbers the prime divides all binomials, and no factorials are needed.
    weighed = []
    most = 0
    for part in divisors(modulus):
        pairs = figure_pairs((x + y) // part, x // part, prime)
        if pairs is not None:
            weighed.append((weight_of(x, y, part, rest), pairs))
            most = max([most, *[pair[0] for pair in pairs]])
    factorials = factorial_rests(most, prime)
    total = sum([weight * binomial_rest(figures, prime, factorials) for weight, figures in weighed])
    return total * inverse(modulus, prime) % prime


def check_near(x, y, farthest):
    """Refuses the first number that is too great to count its paths."""
    for value in (x, y):
        if value > farthest:
            raise TooFar(value)


def check_rest_numbers(x, y, modulus, rest):
    """Refuses the first value that is not an integer from 0 on, for the modulus from 1 on."""
    check_whole(x)
    check_whole(y)
    check_from(modulus, 1)
    check_whole(rest)


def check_rest(modulus, rest):
    """Refuses moduli that are too great, and rests that are not below the modulus."""
    if modulus > MOST_MODULUS:
        raise BadNumber(modulus)
    if rest >= modulus:
        raise BadNumber(rest)
