"""Runs: pairs of a letter and the number of times that this step is taken."""

from areawalks.checks import is_whole
from areawalks.places import Place

LETTERS = "enws"
MOST_RUNS = 10000
DIRECTIONS = {"e": (1, 0), "n": (0, 1), "w": (-1, 0), "s": (0, -1)}


def run_place(letter, times):
    """The place to which one run leads."""
    across, up = DIRECTIONS[letter]
    return Place(across * times, up * times, 0)


def turned_letter(letter, quarters):
    """The letter of a step that is turned by so many quarters."""
    return LETTERS[(LETTERS.index(letter) + quarters) % 4]


def is_run(pair):
    """Whether a value is a pair of a letter and a number of times."""
    if not isinstance(pair, (list, tuple)) or len(pair) != 2:
        return False
    letter, times = pair
    return isinstance(letter, str) and len(letter) == 1 and letter in LETTERS and is_whole(times)


def joined_runs(pairs):
    """The runs of pairs: none of no times, neighbours of one letter put together."""
    runs = []
    last, count = "", 0
    for letter, times in pairs:
        if times == 0:
            continue
        if letter == last:
            count = count + times
            continue
        if count > 0:
            runs.append((last, count))
        last, count = letter, times
    if count > 0:
        runs.append((last, count))
    return tuple(runs)


class Ready:
    """Runs that are known to be those of a walk, so that no walk looks at them again."""

    def __init__(self, runs):
        self.runs = runs


def told_runs(told):
    """The runs of a text, of pairs or of Ready, None for any other value."""
    if isinstance(told, Ready):
        return told.runs
    if not isinstance(told, (str, list, tuple)) or len(told) > MOST_RUNS:
        return None
    if isinstance(told, str):
        # Stripped of the letters, a text of them is empty.
        return joined_runs([(letter, 1) for letter in told]) if told.strip(LETTERS) == "" else None
    if not all([is_run(pair) for pair in told]):
        return None
    return joined_runs(told)


def put_together(front, behind):
    """The runs of one walk with those of another one behind them."""
    if len(front) == 0 or len(behind) == 0 or front[-1][0] != behind[0][0]:
        return front + behind
    letter, times = front[-1]
    return front[:-1] + ((letter, times + behind[0][1]),) + behind[1:]


def corners(runs):
    """The x, y and area at the beginning and behind each run."""
    x, y, area = 0, 0, 0
    points = [(x, y, area)]
    for letter, times in runs:
        across, up = DIRECTIONS[letter]
        area = area + x * up * times
        x = x + across * times
        y = y + up * times
        points.append((x, y, area))
    return points
