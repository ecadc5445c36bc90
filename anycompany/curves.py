"""Curves: what a stop amount is worth, as a function of the amount."""

from anycompany.knots import (
    check_knots, join_knots, lack_between, meet_knots, product_knots, slope_at, value_at,
)
from anycompany.ratio import compare


class Curve:
    """A curve, told by its knots (amount, value); it never changes."""

    def __init__(self, knots):
        check_knots(knots)
        self.knots = tuple(knots)

    @property
    def floor(self):
        """The value of the first knot, the least value of the curve."""
        return self.knots[0][1]

    @property
    def top(self):
        """The amount of the last knot, the index of the curve."""
        return self.knots[-1][0]

    def value(self, amount):
        """Returns the value at the amount."""
        return value_at(self.knots, amount)

    def __call__(self, amount):
        return value_at(self.knots, amount)

    def slope(self, amount):
        """Returns the slope immediately to the right of the amount."""
        return slope_at(self.knots, amount)

    def __iter__(self):
        return iter(self.knots)

    def __mul__(self, other):
        return Curve(product_knots(self.knots, other.knots))

    def __or__(self, other):
        return Curve(join_knots(self.knots, other.knots))

    def __and__(self, other):
        return Curve(meet_knots(self.knots, other.knots))

    def lack(self, other):
        """Returns the pair (loss, amount) by which this curve lies most below the other one."""
        return lack_between(self.knots, other.knots)

    def never_below(self, other):
        """Returns True if this curve is nowhere below the other one, otherwise False."""
        loss, _ = lack_between(self.knots, other.knots)
        return loss == (0, 1)

    def fits(self, discount):
        """Returns True if all slopes that are less than one are at most the discount, otherwise False."""
        # The slopes ascend, so the one that leads to the last knot is the greatest of them.
        if len(self.knots) == 1:
            return True
        return compare(slope_at(self.knots, self.knots[-2][0]), discount) <= 0


def product_of(curves):
    """Returns the product of a list of curves that is not empty."""
    result = curves[0]
    for curve in curves[1:]:
        result = result * curve
    return result
