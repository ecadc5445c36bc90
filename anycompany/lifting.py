"""Large linear systems: solved modulo a prime, and lifted from there to exact ratios.

The time that elimination takes grows fast with the size of its fractions. Here all numbers
stay small until the end, where the ratios are told from the solution modulo a power of the prime.
"""

from math import isqrt, lcm

from anycompany.linear import solve
from anycompany.ratio import make_ratio

# A prime, 2 to the power 127 minus 1: with a smaller one more steps are needed, with a greater one each is slower.
PRIME = 170141183460469231731687303715884105727


def solve_rows(rows, right):
    """Returns the list of the ratios that solve a system without a dependency.

    A row is a dict of the coefficients that are not zero, by column; right has the ratio of each row.
    """
    systems = [whole_system(rows[k], right[k]) for k in range(len(rows))]
    inverse = inverse_rows([dense(row, len(rows)) for row, _ in systems])
    if inverse is None:
        return solve_exactly(rows, right)
    return lifted([row for row, _ in systems], [side for _, side in systems], inverse)


def whole_system(row, side):
    """Returns the row, as a list of pairs (column, integer), and its side, all multiplied by one number."""
    common = side[1]
    for column in row:
        common = lcm(common, row[column][1])
    pairs = [(column, n * (common // d)) for column, (n, d) in row.items()]
    return (pairs, side[0] * (common // side[1]))


def dense(pairs, size):
    result = [0] * size
    for column, whole in pairs:
        result[column] = whole % PRIME
    return result


def solve_exactly(rows, right):
    """Returns the solution by elimination, for systems that have none modulo the prime."""
    size = len(rows)
    matrix = tuple([tuple([row.get(column, (0, 1)) for column in range(size)]) for row in rows])
    _, solution = solve(matrix, tuple([(side,) for side in right]))
    return [row[0] for row in solution]


def inverse_rows(rows):
    """Returns the rows of the inverse modulo the prime, or None if there is a pivot of zero."""
    table = rows
    for k in range(len(rows)):
        pivot = table[k][0]
        if pivot == 0:
            return None
        _, factor = reduced(PRIME, pivot, 1)
        # The first column is done and dropped; the column of the inverse that it brings stands last.
        head = [entry * factor % PRIME for entry in table[k][1:] + [1]]
        table = [cleared(row, head) for row in table[:k]] + [head] + [cleared(row, head) for row in table[k + 1:]]
    return table


def cleared(row, head):
    """Returns the row without its first column, after the multiple of the head that makes it zero."""
    factor = row[0]
    if factor == 0:
        return row[1:] + [0]
    return [(x - factor * y) % PRIME for x, y in zip(row[1:] + [0], head)]


def reduced(modulus, residue, limit):
    """Returns (rest, factor): the rest is factor times the residue modulo the modulus, and at most the limit.

    It is the first such rest in Euclid's algorithm; so if the residue stands for a fraction
    of small numbers, then the rest and the factor are its two numbers, but for the sign.
    """
    high, rest = modulus, residue
    before, factor = 0, 1
    while rest > limit:
        quotient = high // rest
        high, rest = rest, high - quotient * rest
        before, factor = factor, before - quotient * factor
    return (rest, factor)


def lifted(rows, right, inverse):
    """Returns the list of the ratios of the only solution, by an inverse modulo the prime."""
    found = [0] * len(rows)
    modulus = 1
    rest = right
    steps = 0
    wanted = 4
    while True:
        residues = [side % PRIME for side in rest]
        digits = [sum([x * y for x, y in zip(row, residues)]) % PRIME for row in inverse]
        found = [x + modulus * digit for x, digit in zip(found, digits)]
        modulus = modulus * PRIME
        rest = [(side - scalar(row, digits)) // PRIME for side, row in zip(rest, rows)]
        steps += 1
        if steps == wanted:
            common = common_denominator(found, modulus)
            wholes = [centered(x * common, modulus) for x in found]
            if solves(rows, right, wholes, common):
                return [make_ratio(whole, common) for whole in wholes]
            wanted = wanted + wanted // 2


def scalar(row, amounts):
    """Returns the sum of the coefficients of the row times the amounts."""
    return sum([whole * amounts[column] for column, whole in row])


def common_denominator(found, modulus):
    """Returns a denominator of all fractions for which the residues stand, if they are small enough."""
    limit = isqrt(modulus // 2)
    common = 1
    for residue in found:
        _, factor = reduced(modulus, residue * common % modulus, limit)
        common = common * abs(factor)
        if common > limit:
            return 1
    return common


def centered(whole, modulus):
    """Returns the number nearest to zero that is the whole modulo the modulus."""
    rest = whole % modulus
    if 2 * rest > modulus:
        return rest - modulus
    return rest


def solves(rows, right, wholes, common):
    """Returns True if the wholes, divided by the common denominator, are the solution."""
    for row, side in zip(rows, right):
        if scalar(row, wholes) != side * common:
            return False
    return True
