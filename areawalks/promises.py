"""Promises about walks that formulas tell."""

from areawalks.checks import check_integer
from areawalks.formulas import Formula


class Same:
    """Both formulas lead to one place."""

    def __init__(self, text, second):
        self.formulas = Formula(text), Formula(second)
        self.text = text
        self.second = second

    def is_kept(self, walks):
        """Whether the walks of a dict keep the promise."""
        one, other = [formula.place(walks) for formula in self.formulas]
        return one == other


class Along:
    """Both walks, one behind the other, lead to one place in either order."""

    def __init__(self, text, second):
        self.formulas = Formula(text), Formula(second)
        self.text = text
        self.second = second

    def is_kept(self, walks):
        """Whether the walks of a dict keep the promise."""
        one, other = [formula.place(walks) for formula in self.formulas]
        return one.twist(other) == 0


class Between:
    """The area of the place lies from the low number to the high one."""

    def __init__(self, text, low, high):
        self.formula = Formula(text)
        check_integer(low)
        check_integer(high)
        self.text = text
        self.low = low
        self.high = high

    def is_kept(self, walks):
        """Whether the walks of a dict keep the promise."""
        return self.low <= self.formula.place(walks).area <= self.high


class Cheap:
    """The least price of a walk to the place is at most the most."""

    def __init__(self, text, prices, most):
        self.formula = Formula(text)
        check_integer(most)
        self.text = text
        self.prices = prices
        self.most = most

    def is_kept(self, walks):
        """Whether the walks of a dict keep the promise."""
        return self.prices.least_price(self.formula.place(walks)) <= self.most


class Within:
    """The place is in a table."""

    def __init__(self, text, basis):
        self.formula = Formula(text)
        self.text = text
        self.basis = basis

    def is_kept(self, walks):
        """Whether the walks of a dict keep the promise."""
        return self.formula.place(walks) in self.basis
