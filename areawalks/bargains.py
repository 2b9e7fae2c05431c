"""Cheapest frames: pairs of sides that enclose a product, of which each unit has its price."""

from math import gcd, isqrt

from areawalks.ground import quotient_up
from areawalks.ledges import bezout

MOST_WIDTHS = 64


def cheapest_frame(across, up, product, wide, high):
    """A pair of sides from across and up on with at least the product whose cost is as little as possible.

    Wide and high are the prices of each unit of the first side and of the second one.
    """
    if across * up >= product:
        return across, up
    if wide < high:
        height, width = Bargain(up, across, product, high, wide).best()
        return width, height
    return Bargain(across, up, product, wide, high).best()


class Bargain:
    """The least sides, which enclose too little, the product to be enclosed, and the prices.

    No unit of the second side is dearer than one of the first side.
    """

    def __init__(self, across, up, product, wide, high):
        common = gcd(wide, high)
        self.across = across
        self.up = up
        self.product = product
        self.wide = wide // common
        self.high = high // common
        # Sides of no units enclose nothing, and a side is never wider than the other one at its least wants it.
        self.narrowest = max(across, 1)
        self.widest = max(self.narrowest, quotient_up(product, max(up, 1)))

    def best(self):
        """A cheapest frame."""
        # Were parts of units sold, this would be the best width, and the cost would rise to both sides of
        # it. Whole units make it dearer by less than one of them, so few widths are worth a look if the width
        # is small or the cost rises fast. Otherwise frames are so many that few costs are without one.
        best = isqrt(self.high * self.product // self.wide)
        start = min(max(best, self.narrowest), self.widest)
        square = self.wide * start * start
        rise = abs(square - self.high * self.product)
        if self.high * start <= MOST_WIDTHS * MOST_WIDTHS * self.wide or square <= MOST_WIDTHS * rise:
            return self.frame_by_widths(start)
        return self.frame_by_costs()

    def frame_by_widths(self, start):
        """A cheapest frame, found by looking at widths from the start on, wider and narrower ones."""
        best = None
        for first, step in ((start, 1), (start - 1, -1)):
            width = first
            while self.narrowest <= width <= self.widest and self.may_be_cheaper(width, best):
                height = max(self.up, quotient_up(self.product, width))
                found = self.wide * width + self.high * height, width, height
                best = found if best is None else min(best, found)
                width = width + step
        return best[1], best[2]

    def may_be_cheaper(self, width, best):
        """Whether some height, of parts of units too, makes this width cheaper than the best frame."""
        return best is None or self.wide * width * width + self.high * self.product < best[0] * width

    def frame_by_costs(self):
        """A cheapest frame, found by looking at costs from the least that there could be."""
        # Frames of one cost differ by multiples of (high, -wide); this tells one of their widths.
        turn = bezout(self.wide, self.high)[0]
        cost = self.least_cost()
        while True:
            found = self.frame_of_cost(cost, cost * turn)
            if found is not None:
                return found
            cost = cost + 1

    def least_cost(self):
        """The least integer that is not below the cost of the best sides, were parts of units sold."""
        wide, high, product = self.wide, self.high, self.product
        if wide * self.across * self.across >= high * product:
            return wide * self.across + quotient_up(high * product, self.across)
        if high * self.up * self.up >= wide * product:
            return high * self.up + quotient_up(wide * product, self.up)
        return isqrt(4 * wide * high * product - 1) + 1

    def frame_of_cost(self, cost, some_width):
        """A frame of this cost, or None. Told is a width that frames of this cost have but for multiples of high."""
        # The greatest product is enclosed next to the middle, or to the end that is nearest to it.
        peak = min(max(cost // (2 * self.wide), self.across), (cost - self.high * self.up) // self.wide)
        below = peak - (peak - some_width) % self.high
        for width in (below, below + self.high):
            height = (cost - self.wide * width) // self.high
            if width >= self.across and height >= self.up and width * height >= self.product:
                return width, height
        return None
