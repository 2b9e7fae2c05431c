"""Recipes: places made line by line of told ones."""

from areawalks.places import check_places, home_place


class Brew:
    """Places by their numbers, and the lines that made those behind the told ones."""

    def __init__(self, told):
        self.places = [home_place(), *told]
        self.lines = []

    def add_line(self, front, times, behind):
        """Makes one place more and returns its number."""
        self.places.append(self.places[front] * self.places[behind].power(times))
        self.lines.append((front, times, behind))
        return len(self.places) - 1


def brewed(told, recipe):
    """The places of a recipe by their numbers."""
    check_places(told)
    brew = Brew(told)
    for front, times, behind in recipe:
        brew.add_line(front, times, behind)
    return brew.places
