"""Walks: steps east, north, west and south, kept as runs."""

from areawalks.checks import check_integer, check_whole, is_whole
from areawalks.errors import BadNumber, BadWord, TooMany
from areawalks.ground import fewest_steps
from areawalks.places import Place
from areawalks.runs import MOST_RUNS, Ready, corners, joined_runs, put_together, run_place, told_runs, turned_letter

MIRRORED = {"e": "w", "n": "n", "w": "e", "s": "s"}


class Walk:
    """A walk that is told by its letters or by pairs (letter, times)."""

    def __init__(self, told):
        runs = told_runs(told)
        if runs is None:
            raise BadWord(told)
        self.runs = runs

    def __eq__(self, other):
        return isinstance(other, Walk) and self.runs == other.runs

    def __mul__(self, other):
        """This walk, then the other one."""
        if not isinstance(other, Walk):
            return NotImplemented
        return ready_walk(put_together(self.runs, other.runs))

    def __invert__(self):
        """The walk back."""
        return ready_walk([(turned_letter(letter, 2), times) for letter, times in self.runs[::-1]])

    @property
    def length(self):
        """The number of steps."""
        return sum([run[1] for run in self.runs])

    def place(self):
        """The Place to which the walk leads."""
        x, y, area = corners(self.runs)[-1]
        return Place(x, y, area)

    def letters(self):
        """The text of the walk."""
        if self.length > MOST_RUNS:
            raise TooMany(MOST_RUNS)
        return "".join([letter * times for letter, times in self.runs])

    def head(self, number):
        """The Walk of the first steps, so many."""
        check_part(self, number)
        runs = []
        left = number
        for letter, times in self.runs:
            taken = min(times, left)
            runs.append((letter, taken))
            left = left - taken
        return ready_walk(joined_runs(runs))

    def tail(self, number):
        """The Walk of the steps behind the first ones, so many."""
        check_part(self, number)
        runs = []
        left = number
        for letter, times in self.runs:
            passed = min(times, left)
            runs.append((letter, times - passed))
            left = left - passed
        return ready_walk(joined_runs(runs))

    def at(self, number):
        """The Place to which the first steps lead, so many."""
        return self.head(number).place()

    def sides(self):
        """The least x, the greatest x, the least y and the greatest y on the way."""
        points = corners(self.runs)
        xs = [point[0] for point in points]
        ys = [point[1] for point in points]
        return min(xs), max(xs), min(ys), max(ys)

    def turned(self, quarters):
        """The Walk with all steps turned by so many quarters."""
        check_integer(quarters)
        return ready_walk([(turned_letter(letter, quarters), times) for letter, times in self.runs])

    def mirrored(self):
        """The Walk with east and west exchanged."""
        return ready_walk([(MIRRORED[letter], times) for letter, times in self.runs])

    def repeated(self, number):
        """The Walk done so many times."""
        check_whole(number)
        count = len(self.runs)
        if count < 2:
            return ready_walk(joined_runs([(letter, times * number) for letter, times in self.runs]))
        # At least so many runs are left where ends of one letter join;
        # refused here, a great number makes no long tuple.
        if (count - 1) * number > MOST_RUNS:
            raise TooMany(MOST_RUNS)
        return ready_walk(joined_runs(self.runs * number))

    def is_least(self):
        """Whether no shorter walk leads to the same place."""
        return fewest_steps(self.place()) == self.length

    def first_not_least(self):
        """The length of the shortest beginning that is not least, None if there is none."""
        places = [Place(*point) for point in corners(self.runs)]
        done = 0
        for at, (letter, times) in enumerate(self.runs):
            if fewest_steps(places[at + 1]) != done + times:
                return done + first_too_many(places[at], letter, done, times)
            done = done + times
        return None


def ready_walk(runs):
    """The Walk of runs that are those of a walk, unless they are too many."""
    if len(runs) > MOST_RUNS:
        raise TooMany(MOST_RUNS)
    return Walk(Ready(tuple(runs)))


def check_part(walk, number):
    """Refuses what is not a number of steps of the walk."""
    if not is_whole(number) or number > walk.length:
        raise BadNumber(number)


def first_too_many(place, letter, done, times):
    """The least number of steps with this letter that make a walk not least.

    The walk has done steps to the place and is not least with so many times more.
    """
    # Beginnings of least walks are least, so halving finds the first one that is not.
    low, high = 0, times
    while high - low > 1:
        middle = (low + high) // 2
        if fewest_steps(place * run_place(letter, middle)) == done + middle:
            low = middle
        else:
            high = middle
    return high
