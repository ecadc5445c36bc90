"""Ratios: exact fractions as tuples (n, d) in lowest terms with d at least 1."""

from math import gcd

from anycompany.errors import ZeroDenominator


def make_ratio(n, d):
    """Returns the ratio of n/d."""
    if d == 0:
        raise ZeroDenominator("the denominator is zero")
    common = gcd(n, d)
    if d < 0:
        common = -common
    return (n // common, d // common)


def is_ratio(value):
    """Returns True if value is a ratio, otherwise False."""
    if not isinstance(value, tuple) or len(value) != 2:
        return False
    n, d = value
    if not is_whole(n) or not is_whole(d):
        return False
    return d >= 1 and gcd(n, d) == 1


def is_whole(value):
    # True and False are integers for Python, but not for this program.
    return isinstance(value, int) and not isinstance(value, bool)


def add(a, b):
    """Returns the sum of two ratios."""
    return make_ratio(a[0] * b[1] + b[0] * a[1], a[1] * b[1])


def subtract(a, b):
    """Returns the difference a - b of two ratios."""
    return make_ratio(a[0] * b[1] - b[0] * a[1], a[1] * b[1])


def multiply(a, b):
    """Returns the product of two ratios."""
    return make_ratio(a[0] * b[0], a[1] * b[1])


def divide(a, b):
    """Returns a divided by b."""
    return make_ratio(a[0] * b[1], a[1] * b[0])


def compare(a, b):
    """Returns -1 if a is less than b, 0 if they are equal, 1 if a is greater."""
    left = a[0] * b[1]
    right = b[0] * a[1]
    if left < right:
        return -1
    if left > right:
        return 1
    return 0


def total(values):
    """Returns the sum of a list or tuple of ratios, zero if it is empty."""
    result = (0, 1)
    for value in values:
        result = add(result, value)
    return result


def largest(values):
    """Returns the greatest ratio of a list or tuple that is not empty."""
    result = values[0]
    for value in values:
        if compare(value, result) > 0:
            result = value
    return result


def power(a, k):
    """Returns a to the power k, for an integer k of at least 0."""
    # Powers of numbers without a common divisor have none either.
    return (whole_power(a[0], k), whole_power(a[1], k))


def whole_power(base, exponent):
    # Squaring takes few steps also for a large exponent.
    result = 1
    square = base
    left = exponent
    while left > 0:
        if left % 2 == 1:
            result = result * square
        left = left // 2
        if left > 0:
            square = square * square
    return result
