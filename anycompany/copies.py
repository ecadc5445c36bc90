"""Copies of a place: companies that consist of the same place several times."""

from anycompany.knots import slope_between
from anycompany.linear import whole_row
from anycompany.profiles import game_curve
from anycompany.ratio import compare, make_ratio, subtract, whole_power


def copies_gain(place, count, discount):
    """Returns the best gain of count copies of the place."""
    curve = game_curve(place, discount)
    return subtract(curve.top, shortage_by(curve.knots, count))


def shortage(place, count, discount):
    """Returns the index of the place minus the best gain of count copies."""
    return shortage_by(game_curve(place, discount).knots, count)


def shortage_by(knots, count):
    """Returns the shortage of count copies of a place whose curve has these knots."""
    n, d = loose_shortage(whole_pieces(knots), count)
    return make_ratio(n, d)


def whole_pieces(knots):
    """Returns the slopes and the widths of the pieces between the knots, as two lists of integers.

    At the end of each list stands the number by which the integers before it are to be divided.
    """
    pieces = [(knots[k], knots[k + 1]) for k in range(len(knots) - 1)]
    slopes = [slope_between(left, right) for left, right in pieces]
    widths = [subtract(right[0], left[0]) for left, right in pieces]
    return (whole_row(slopes + [(1, 1)]), whole_row(widths + [(1, 1)]))


def loose_shortage(pieces, count):
    """Returns the numbers (n, d) of the shortage n/d; they may have a common divisor."""
    # Each piece of the product of count equal curves has the slope to the power of count.
    # With large powers most time would go into common divisors, so none is looked for here.
    slopes, widths = pieces
    missing = sum([whole_power(slope, count) * width for slope, width in zip(slopes[:-1], widths[:-1])])
    return (missing, whole_power(slopes[-1], count) * widths[-1])


def enough_copies(place, bound, discount):
    """Returns the least count of at least 1 whose shortage is at most the bound."""
    pieces = whole_pieces(game_curve(place, discount).knots)
    high = 1
    while compare(loose_shortage(pieces, high), bound) > 0:
        high = 2 * high
    # The shortage never grows with the count, so what is enough is not below what is not.
    low = high // 2
    while high - low > 1:
        middle = (low + high) // 2
        if compare(loose_shortage(pieces, middle), bound) > 0:
            low = middle
        else:
            high = middle
    return high
