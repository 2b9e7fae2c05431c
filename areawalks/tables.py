"""Tables: all places that told places make."""

from math import gcd, lcm

from areawalks.checks import is_integer, is_whole
from areawalks.errors import BadPlace, NotWithin, TooMany
from areawalks.ledges import bezout, end_powers, failed_form, form_value, height_over, is_made, is_multiple
from areawalks.ledges import ledge_forms, order_of, reduced
from areawalks.making import made_numbers
from areawalks.places import Place, check_place, check_places
from areawalks.recipes import Brew
from areawalks.solving import kept_places

MOST_TOLD = 8


class Table:
    """What at most eight told places make, with its ledge and home number."""

    def __init__(self, told):
        check_places(told)
        if len(told) > MOST_TOLD:
            raise TooMany(MOST_TOLD)
        self.told = tuple(told)
        brew = Brew(self.told)
        numbers, home = made_numbers(brew, len(self.told))
        self.ledge = tuple([brew.places[number] for number in numbers])
        self.home = 0 if home is None else brew.places[home].area
        self.recipe = tuple(brew.lines)
        self.made = tuple(numbers) if home is None else (*numbers, home)

    def __eq__(self, other):
        return isinstance(other, Table) and self.ledge == other.ledge and self.home == other.home

    def __contains__(self, place):
        check_place(place)
        return is_made(self.ledge, self.home, place)

    def figures(self, place):
        """The powers of the ledge's places and of the home place that make the place, or None."""
        if place not in self:
            return None
        powers = end_powers(self.ledge, place)
        storeys = height_over(self.ledge, place) // self.home if self.home > 0 else 0
        return (*powers, storeys)

    def rest(self, place):
        """The one place of the coset whose x, y and area are reduced by the ledge and the home number."""
        check_place(place)
        left = place
        for at, unit in enumerate(self.ledge):
            # The first place moves x, if it can, and the second one y alone.
            by_x = at == 0 and unit.x > 0
            times = left.x // unit.x if by_x else left.y // unit.y
            left = unit.power(-times) * left
        return Place(left.x, left.y, reduced(left.area, self.home))

    def bar(self, place):
        """A TableBar that keeps the place from being in the table, None if it is there."""
        if place in self:
            return None
        failed = failed_form(self.ledge, place)
        if failed is None:
            return TableBar(None, self.home, reduced(height_over(self.ledge, place), self.home))
        form, modulus = failed
        return TableBar(form, modulus, reduced(form_value(form, place), modulus))

    def common(self, other):
        """The table of all places that are in both tables."""
        check_table(other)
        places = list(self.ledge)
        for form, modulus in ledge_forms(other.ledge):
            values = [form_value(form, place) for place in places]
            places = kept_places(places, values, modulus)
        heights = [height_over(other.ledge, place) for place in places]
        places = kept_places(places, heights, gcd(self.home, other.home))
        shared = [raised(place, self.home, other) for place in places]
        return Table([*shared, Place(0, 0, lcm(self.home, other.home))])

    def joint(self, other):
        """The table of all places that both tables make together."""
        check_table(other)
        return Table(makers(self) + makers(other))

    def inside(self, other):
        """Whether all places of the table are in the other one."""
        check_table(other)
        return all([place in other for place in makers(self)])

    def cosets(self):
        """The index, None if it is endless."""
        if len(self.ledge) < 2:
            return None
        return ends_volume(self) * self.home

    def cosets_in(self, other):
        """The number of cosets in a larger table, None if it is endless."""
        if not self.inside(other):
            raise NotWithin()
        if len(self.ledge) < len(other.ledge) or (self.home == 0 and other.home > 0):
            return None
        times = 1 if self.home == 0 else self.home // other.home
        return ends_volume(self) // ends_volume(other) * times

    def is_normal(self):
        """Whether the table is the same seen from every place."""
        parts = [part for place in self.ledge for part in (place.x, place.y)]
        return all([is_multiple(part, self.home) for part in parts])

    def moved(self, place):
        """The table seen from a place."""
        check_place(place)
        return Table([place * maker * ~place for maker in makers(self)])

    def power_in(self, place):
        """The least number from 1 on with which the place's power is in the table, or None."""
        check_place(place)
        number = 1
        for form, modulus in ledge_forms(self.ledge):
            times = order_of(form_value(form, place), modulus)
            if times is None:
                return None
            number = lcm(number, times)
        # This power lies over an end, so all its powers do, and but for multiples of the
        # home number their heights over the ledge's places are multiples of its own height.
        times = order_of(height_over(self.ledge, place.power(number)), self.home)
        return None if times is None else number * times


class TableBar:
    """What keeps a place from being in a table."""

    def __init__(self, form, modulus, remains):
        self.form = tuple(form) if isinstance(form, (list, tuple)) else form
        self.modulus = modulus
        self.remains = remains


def table_bars(bar, table, place):
    """Whether the bar keeps the place from being in the table."""
    if not is_whole(bar.modulus) or not is_integer(bar.remains):
        return False
    value = barred_value(bar, table, place)
    if value is None or is_multiple(value, bar.modulus):
        return False
    return bar.remains == reduced(value, bar.modulus)


def barred_value(bar, table, place):
    """What the bar's modulus divides in the table, at the place; None if it is no bar of the table."""
    if bar.form is None:
        if bar.modulus != table.home or failed_form(table.ledge, place) is not None:
            return None
        return height_over(table.ledge, place)
    values = [form_value(bar.form, end) for end in table.ledge]
    if not all([is_multiple(value, bar.modulus) for value in values]):
        return None
    return form_value(bar.form, place)


def check_table(value):
    """Refuses what is not a Table."""
    if not isinstance(value, Table):
        raise BadPlace(value)


def makers(table):
    """Places that make the table: those of its ledge and the home place."""
    return [*table.ledge, Place(0, 0, table.home)]


def ends_volume(table):
    """How thinly the ends of a table lie.

    Where the ends of one table are among those of another one with as many places in its ledge,
    the quotient of both numbers is how many times as many ends the other table has.
    """
    if len(table.ledge) == 0:
        return 1
    first = table.ledge[0]
    if len(table.ledge) == 1:
        return gcd(first.x, first.y)
    return first.x * table.ledge[1].y


def raised(place, home, other):
    """The place lifted by a multiple of the home number so that it is in the other table too."""
    height = height_over(other.ledge, place)
    if other.home == 0:
        return place.lifted(-height)
    common = gcd(home, other.home)
    modulus = other.home // common
    times = -height // common * bezout(home // common, modulus)[0]
    return place.lifted(times % modulus * home)
