"""What several tests need: values of every kind, and walks listed one by one."""

from areawalks.book import Book
from areawalks.closed import Closed
from areawalks.formulas import Formula
from areawalks.forwards import Forward
from areawalks.kings import KingWalk
from areawalks.lots import Lot
from areawalks.places import Place
from areawalks.prices import Prices
from areawalks.promises import Along, Between, Cheap, Same, Within
from areawalks.renamings import Renaming
from areawalks.tables import Table, TableBar
from areawalks.views import ViewBar
from areawalks.walks import Walk

HUGE = 10 ** 119 + 7
STRIDES = {"e": (1, 0), "n": (0, 1), "w": (-1, 0), "s": (0, -1)}


def nested(depth):
    """A list that is nested so deep."""
    value = []
    for _ in range(depth):
        value = [value]
    return value


def values_of_all_kinds():
    """Values of every kind that a caller may pass in the place of another one."""
    return [
        None, True, False, 0, 1, -1, 5, HUGE, -HUGE, "", "e", "5", "walk", "enwsx", (), (1,), (1, 2, 3), [], [1, 2],
        ["e"], [("e", 1), ("x", 2)], {}, {"e": 1}, {1: 2}, nested(20), (nested(18),), {"a": nested(18)},
        Place(1, 2, 3), Walk("en"), Table([Place(1, 0, 0)]), TableBar((1, 0), 2, 1), Forward([Place(1, 0, 0)]),
        ViewBar([1], 2), Renaming(Place(1, 0, 0), Place(0, 1, 0)), Lot(1, 2, 3, 4), Prices(1, 2, 3, 4),
        KingWalk([("ne", 2)]), Closed(Table([Place(1, 0, 0), Place(0, 1, 0)])), Formula("a"), Same("a", "b"),
        Along("a", "b"), Between("a", 0, 1), Cheap("a", Prices(1, 1, 1, 1), 5), Within("a", Table([])), Book()]


def is_integer(value):
    return isinstance(value, int) and not isinstance(value, bool)


def no_integers():
    return [value for value in values_of_all_kinds() if not is_integer(value)]


def no_whole_numbers():
    return [value for value in values_of_all_kinds() if not is_integer(value) or value < 0]


def no_places():
    return [value for value in values_of_all_kinds() if not isinstance(value, Place)]


def no_tables():
    return [value for value in values_of_all_kinds() if not isinstance(value, Table)]


def assert_raises(test, error, fields, call, *arguments, **named):
    """The call raises just this error, with just these fields, as they were passed."""
    with test.assertRaises(error) as caught:
        call(*arguments, **named)
    raised = caught.exception
    test.assertIs(raised.__class__, error)
    test.assertEqual(sorted(vars(raised)), sorted(fields))
    for name, value in fields.items():
        test.assertTrue(getattr(raised, name) is value or getattr(raised, name) == value, name)
        test.assertIs(getattr(raised, name).__class__, value.__class__)


def figures_of(place):
    """A Place as a tuple, which failing tests show."""
    return place.x, place.y, place.area


def end_of(letters):
    """(x, y, area) at the end of a text, step by step."""
    x = y = area = 0
    for letter in letters:
        across, up = STRIDES[letter]
        area += x * up
        x += across
        y += up
    return x, y, area


def stepped(point, letter):
    """(x, y, area) one step further."""
    x, y, area = point
    across, up = STRIDES[letter]
    return x + across, y + up, area + x * up


def listed_steps(most):
    """The steps of all places with at most so many, found ring by ring, by (x, y, area)."""
    found = {(0, 0, 0): 0}
    ring = [(0, 0, 0)]
    for number in range(1, most + 1):
        further = []
        for point in ring:
            for letter in "enws":
                end = stepped(point, letter)
                if end not in found:
                    found[end] = number
                    further.append(end)
        ring = further
    return found


def listed_further(counts):
    """How many walks lead to each (x, y, area) one step further."""
    further = {}
    for point, count in counts.items():
        for letter in "enws":
            end = stepped(point, letter)
            further[end] = further.get(end, 0) + count
    return further


def listed_walks(number):
    """How many walks of so many steps lead to each (x, y, area)."""
    counts = {(0, 0, 0): 1}
    for _ in range(number):
        counts = listed_further(counts)
    return counts
