"""King's walks: steps in eight directions, and what rounds of them sweep."""

from math import isqrt

from areawalks.checks import check_integer, check_whole
from areawalks.errors import BadWord
from areawalks.runs import joined_runs

STRIDES = {
    "e": (1, 0), "ne": (1, 1), "n": (0, 1), "nw": (-1, 1), "w": (-1, 0), "sw": (-1, -1), "s": (0, -1), "se": (1, -1)}


class KingWalk:
    """A walk that is told by pairs (direction, times)."""

    def __init__(self, told):
        for direction, times in told:
            if not isinstance(direction, str) or direction not in STRIDES:
                raise BadWord(direction)
            check_whole(times)
        self.runs = joined_runs(told)

    def __eq__(self, other):
        return isinstance(other, KingWalk) and self.runs == other.runs

    @property
    def length(self):
        """The number of steps."""
        return sum([run[1] for run in self.runs])

    def ends(self):
        """The x and y at which the walk ends."""
        return king_figures(self.runs)[:2]

    def swept(self):
        """What the walk sweeps, twice the area of a round."""
        return king_figures(self.runs)[2]


def king_most(number):
    """The most that rounds of so many steps sweep, None if there are none."""
    check_whole(number)
    return None if number == 1 else most_swept(number)


def king_least(swept):
    """The least number of steps of a round that sweeps so much."""
    check_integer(swept)
    return fewest_king_steps(abs(swept))


def king_round(number, swept):
    """A KingWalk, a round of so many steps that sweeps so much, of at most ten runs, or None."""
    check_whole(number)
    check_integer(swept)
    fewest = fewest_king_steps(abs(swept))
    if fewest > number or (number - fewest) & 1 == 1:
        return None
    # What the shortest round leaves of the steps is gone to and fro.
    spare = (number - fewest) // 2
    east, west = ("e", "w") if swept >= 0 else ("w", "e")
    runs = odd_round(fewest, abs(swept), east, west) if fewest & 1 == 1 else even_round(fewest, abs(swept), east, west)
    return KingWalk([(east, spare), (west, spare), *runs])


def king_figures(runs):
    """The x and y at which runs end, and what they sweep."""
    x, y, swept = 0, 0, 0
    for direction, times in runs:
        across, up = STRIDES[direction]
        # Steps in one direction all sweep what the first one sweeps.
        swept = swept + times * (x * up - y * across)
        x = x + times * across
        y = y + times * up
    return x, y, swept


def most_swept(number):
    """The most that rounds of so many steps sweep, for numbers other than 1."""
    if number & 1 == 1:
        return (number * number - 5) // 4
    return number * number // 4 - (number // 2 & 1)


def fewest_king_steps(swept):
    """The least number of steps of rounds that sweep so much, which is 0 or more."""
    if swept & 1 == 1:
        # The least odd number whose square is at least 4 * swept + 5.
        return isqrt(4 * swept + 4) + 1 | 1
    # Half as many steps are the least number whose square is at least swept: if it is odd, its square is odd, too,
    # and above swept, which is even.
    return 2 * (isqrt(swept - 1) + 1) if swept > 0 else 0


def even_round(number, swept, east, west):
    """The runs of the shortest round that sweeps so much, which is even: so many steps."""
    width = number // 4
    height = number // 2 - width
    # A round of slanting steps alone sweeps the most. If one step of each of two kinds of these are made
    # straight, it sweeps 2 less, and 2 less with each slanting step behind which they come sooner or later.
    less = (4 * width * height - swept) // 2
    cut = min(1, less)
    sooner = min(less - cut, width - cut)
    later = less - cut - sooner
    return [
        ("n" + east, width - cut - sooner), ("n", cut), ("n" + east, sooner), ("n" + west, later), ("n", cut),
        ("n" + west, height - cut - later), ("s" + west, width), ("s" + east, height)]


def odd_round(number, swept, east, west):
    """The runs of the shortest round that sweeps so much, which is odd: so many steps."""
    width = number // 4
    height = number // 2 - width
    # The two straight steps sweep the most next to one another but for steps north and west;
    # 2 less is swept with each slanting step behind which they come sooner or later.
    less = (most_swept(number) - swept) // 2
    sooner = min(less, width)
    later = less - sooner
    return [
        ("n" + east, width - sooner), ("n", 1), ("n" + east, sooner), ("n" + west, height - 1), ("s" + west, later),
        (west, 1), ("s" + west, width - later), ("s" + east, height)]
