"""Rows of knots (amount, value), as a curve has them: what can be told of one row or of two."""

from anycompany.errors import BadKnot, NoKnots
from anycompany.ratio import add, compare, divide, largest, multiply, subtract


def check_knots(knots):
    """Raises NoKnots or BadKnot if these are not the knots of a curve."""
    if len(knots) == 0:
        raise NoKnots("a curve has at least one knot")
    slope = (0, 1)
    for k in range(1, len(knots)):
        if compare(knots[k][0], knots[k - 1][0]) <= 0:
            raise BadKnot(k)
        following = slope_between(knots[k - 1], knots[k])
        if compare(following, slope) <= 0 or compare(following, (1, 1)) >= 0:
            raise BadKnot(k)
        slope = following
    amount, value = knots[-1]
    if value != amount:
        raise BadKnot(len(knots) - 1)


def slope_between(left, right):
    """Returns the slope of the straight line through two points."""
    return divide(subtract(right[1], left[1]), subtract(right[0], left[0]))


def count_passed(knots, amount):
    """Returns how many knots have an amount that is not greater than this one."""
    low = 0
    high = len(knots)
    while low < high:
        middle = (low + high) // 2
        if compare(knots[middle][0], amount) <= 0:
            low = middle + 1
        else:
            high = middle
    return low


def slope_at(knots, amount):
    """Returns the slope immediately to the right of the amount."""
    passed = count_passed(knots, amount)
    if passed == 0:
        return (0, 1)
    if passed == len(knots):
        return (1, 1)
    return slope_between(knots[passed - 1], knots[passed])


def value_at(knots, amount):
    """Returns the value of the curve at the amount."""
    passed = count_passed(knots, amount)
    if passed == 0:
        return knots[0][1]
    if passed == len(knots):
        return amount
    left = knots[passed - 1]
    return height_at(left, slope_between(left, knots[passed]), amount)


def height_at(point, slope, amount):
    """Returns the height at the amount of the straight line through the point with the slope."""
    return add(point[1], multiply(slope, subtract(amount, point[0])))


def bent(points):
    """Returns the tuple of those points of a curve at which its slope changes."""
    kept = []
    slope = (0, 1)
    for k in range(len(points)):
        following = (1, 1)
        if k + 1 < len(points):
            following = slope_between(points[k], points[k + 1])
        if following != slope:
            kept.append(points[k])
        slope = following
    return tuple(kept)


def amounts_of(first, second):
    """Returns the list of the amounts of all knots of both rows, ascending, each once."""
    amounts = []
    at = 0
    for amount, _ in first:
        while at < len(second) and compare(second[at][0], amount) < 0:
            amounts.append(second[at][0])
            at += 1
        if at < len(second) and second[at][0] == amount:
            at += 1
        amounts.append(amount)
    return amounts + [amount for amount, _ in second[at:]]


def product_knots(first, second):
    """Returns the knots of the curve whose slope is the product of the two slopes everywhere."""
    amounts = amounts_of(first, second)
    value = amounts[-1]
    points = [(value, value)]
    # Only at the right end is the value known, so the curve is found from right to left.
    for k in range(len(amounts) - 2, -1, -1):
        slope = multiply(slope_at(first, amounts[k]), slope_at(second, amounts[k]))
        value = subtract(value, multiply(slope, subtract(amounts[k + 1], amounts[k])))
        points.append((amounts[k], value))
    return bent(points[::-1])


def join_knots(first, second):
    """Returns the knots of the curve that has the greater one of the two values everywhere."""
    points = []
    before = None
    for amount in amounts_of(first, second):
        here = (amount, value_at(first, amount), value_at(second, amount))
        if before is not None:
            points.extend(crossings(before, here))
        points.append((amount, largest(here[1:])))
        before = here
    return bent(points)


def crossings(left, right):
    """Returns the list of the points strictly between two amounts at which two straight lines cross.

    Each end is an amount with the heights of both lines. There is one such point or none.
    """
    gap = subtract(left[1], left[2])
    later = subtract(right[1], right[2])
    if compare(gap, (0, 1)) * compare(later, (0, 1)) >= 0:
        return []
    part = divide(gap, subtract(gap, later))
    amount = add(left[0], multiply(part, subtract(right[0], left[0])))
    return [(amount, add(left[1], multiply(part, subtract(right[1], left[1]))))]


def meet_knots(first, second):
    """Returns the knots of the greatest curve that is nowhere above either of the two."""
    chain = []
    for amount in amounts_of(first, second):
        point = (amount, smaller(value_at(first, amount), value_at(second, amount)))
        # What is not below the straight line to the new point is not on the lower hull.
        while len(chain) > 0 and compare(slope_between(chain[-1], point), last_slope(chain)) <= 0:
            chain.pop()
        chain.append(point)
    while compare(last_slope(chain), (1, 1)) >= 0:
        chain.pop()
    return tuple(chain)


def last_slope(chain):
    """Returns the slope that leads to the last point; left of the first one it is zero."""
    if len(chain) == 1:
        return (0, 1)
    return slope_between(chain[-2], chain[-1])


def smaller(a, b):
    if compare(a, b) < 0:
        return a
    return b


def lack_between(first, second):
    """Returns the pair (loss, amount) by which the first curve lies most below the second one."""
    loss = (0, 1)
    where = None
    # Between two neighbouring knots the difference is straight, so a knot has the greatest one.
    for amount in amounts_of(first, second):
        gap = subtract(value_at(second, amount), value_at(first, amount))
        if compare(gap, loss) > 0:
            loss = gap
            where = amount
    return (loss, where)


def excess_of(point):
    """Returns the value minus the amount."""
    return subtract(point[1], point[0])


def amount_with_excess(knots, excess):
    """Returns the amount at which a curve has the excess; without any excess it is the last one."""
    # From left to right the excess of the knots falls, down to zero at the last one.
    passed = 0
    while compare(excess_of(knots[passed]), excess) > 0:
        passed += 1
    right = knots[passed]
    if passed == 0:
        return subtract(right[1], excess)
    left = knots[passed - 1]
    low = excess_of(right)
    part = divide(subtract(excess, low), subtract(excess_of(left), low))
    return subtract(right[0], multiply(part, subtract(right[0], left[0])))
