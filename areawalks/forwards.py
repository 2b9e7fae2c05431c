"""What told places make forward."""

from areawalks.errors import OneSided
from areawalks.ledges import form_value
from areawalks.places import check_place
from areawalks.recipes import Brew
from areawalks.tables import Table
from areawalks.undoing import made_pair, told_pairs


class Forward:
    """What at most eight told places make in any order, none of them walked back."""

    def __init__(self, told):
        self.whole = Table(told)
        self.told = self.whole.told
        self.half = half_of(self.told)
        self.around = self.half is None
        self.wheel = wheel_of(self.told) if self.around else None

    def table(self):
        """The Table of the told places."""
        return self.whole

    def has(self, place):
        """Whether the place is made forward."""
        self.check_reach(place)
        return place in self.whole

    def recipe_of(self, place):
        """A recipe without a power below 0 and the place's number in it; None if it is not made forward."""
        self.check_reach(place)
        figures = self.whole.figures(place)
        if figures is None:
            return None
        brew = Brew(self.told)
        pairs = told_pairs(brew, self.wheel)
        for front, times, behind in self.whole.recipe:
            pairs.append(made_pair(brew, pairs[front], times, pairs[behind]))
        number = 0
        for made, times in zip(self.whole.made, figures):
            forth, back = pairs[made]
            number = brew.add_line(number, abs(times), forth if times >= 0 else back)
        return tuple(brew.lines), number

    def check_reach(self, place):
        """Refuses what is not a Place, and any place if the ends do not reach to all sides."""
        check_place(place)
        if not self.around:
            raise OneSided(self.half)


def half_of(places):
    """A form that is below 0 at no end, None if the ends reach to all sides."""
    # If there is such a form, one of them is 0 at an end and above 0 to the left of it, unless all ends are (0, 0).
    for form in [(1, 0)] + [(-place.y, place.x) for place in places]:
        if form != (0, 0) and min([form_value(form, place) for place in places], default=0) >= 0:
            return form
    return None


def wheel_of(places):
    """The indexes of three or four places whose ends go round (0, 0), of places that reach to all sides."""
    first = [at for at, place in enumerate(places) if (place.x, place.y) != (0, 0)][0]
    hub = places[first]
    left = right = facing = None
    for at, place in enumerate(places):
        side = hub.twist(place)
        if side > 0 and (left is None or places[left].twist(place) > 0):
            left = at
        elif side < 0 and (right is None or places[right].twist(place) < 0):
            right = at
        elif side == 0 and hub.x * place.x + hub.y * place.y < 0:
            facing = at
    # Left and right are now as far round as can be; if there is half a turn or more from one
    # to the other, an end just opposite to the first one lies between.
    if places[left].twist(places[right]) > 0:
        return first, left, right
    return first, left, facing, right
