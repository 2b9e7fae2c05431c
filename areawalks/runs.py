"""Runs: pairs of a letter and the number of times that this step is taken."""

from areawalks.checks import is_whole
from areawalks.places import Place, home_place

LETTERS = "enws"
MOST_RUNS = 10000
DIRECTIONS = {"e": (1, 0), "n": (0, 1), "w": (-1, 0), "s": (0, -1)}


def run_place(letter, times):
    """The place to which one run leads."""
    across, up = DIRECTIONS[letter]
    return Place(across * times, up * times, 0)


def turned_letter(letter, quarters):
    """The letter of a step that is turned by so many quarters."""
    return LETTERS[(LETTERS.index(letter) + quarters) % 4]


def is_run(pair):
    """Whether a value is a pair of a letter and a number of times."""
    if not isinstance(pair, (list, tuple)) or len(pair) != 2:
        return False
    letter, times = pair
    return isinstance(letter, str) and len(letter) == 1 and letter in LETTERS and is_whole(times)


def joined_runs(pairs):
    """The runs of pairs: none of no times, neighbours of one letter put together."""
    runs = []
    last, count = "", 0
    for letter, times in pairs:
        if times == 0:
            continue
        if letter == last:
            count = count + times
            continue
        if count > 0:
            runs.append((last, count))
        last, count = letter, times
    if count > 0:
        runs.append((last, count))
    return tuple(runs)


def told_runs(told):
    """The runs of a text or of pairs, None for any other value."""
    if not isinstance(told, (str, list, tuple)) or len(told) > MOST_RUNS:
        return None
    pairs = told
    if isinstance(told, str):
        pairs = [(letter, 1) for letter in told]
    if not all([is_run(pair) for pair in pairs]):
        return None
    return joined_runs(pairs)


def corners(runs):
    """The places at the beginning and behind each run."""
    place = home_place()
    places = [place]
    for letter, times in runs:
        place = place * run_place(letter, times)
        places.append(place)
    return places
