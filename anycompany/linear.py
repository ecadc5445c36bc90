"""Linear systems over ratios, solved exactly."""

from math import lcm

from anycompany.ratio import make_ratio


def solve(matrix, right):
    """Returns ("dependency", y) if the matrix has a dependency, otherwise ("solution", x)."""
    size = len(matrix)
    rows = [whole_row(matrix[k] + right[k]) for k in range(size)]
    rows, scale, done = eliminated(rows, size)
    if done < size:
        return ("dependency", dependency(matrix))
    return ("solution", tuple([ratio_row(row, scale) for row in rows]))


def dependency(matrix):
    """Returns a dependency of a matrix that has one."""
    # A dependency of the rows is a vector that the transposed matrix takes to zero.
    size = len(matrix)
    columns = [whole_row([row[k] for row in matrix]) for k in range(size)]
    rows, scale, done = eliminated(columns, size)
    # The first column without a pivot is a combination of the columns before it.
    wholes = [row[0] for row in rows[:done]] + [-scale] + [0] * (size - done - 1)
    return ratio_row(wholes, 1)


def whole_row(row):
    """Returns the row of ratios as a list of integers, all multiplied by one number."""
    common = 1
    for _, d in row:
        common = lcm(common, d)
    return [n * (common // d) for n, d in row]


def ratio_row(wholes, scale):
    return tuple([make_ratio(whole, scale) for whole in wholes])


def eliminated(rows, size):
    """Eliminates up to size columns, each with a pivot, and drops them from the rows.

    Returns (rows, scale, done): done is the number of eliminated columns, which is
    less than size if the next column has no pivot. A row stands for the equation that
    its columns before size, each times its unknown, have the columns from size on as
    their sum. In each of the first done rows, of the unknowns of the eliminated
    columns only its own is left, times scale.
    """
    scale = 1
    for column in range(size):
        at = pivot_position(rows, column)
        if at is None:
            return rows, scale, column
        rows = brought_up(rows, column, at)
        pivot = rows[column][0]
        rows = without_first_column(rows, column, scale)
        scale = pivot
    return rows, scale, size


def pivot_position(rows, start):
    for k in range(start, len(rows)):
        if rows[k][0] != 0:
            return k
    return None


def brought_up(rows, first, second):
    """Returns the rows with the second one at the place of the first one."""
    return rows[:first] + [rows[second]] + rows[first:second] + rows[second + 1:]


def without_first_column(rows, at, scale):
    # Each entry stays a minor of the whole matrix, so the division by the preceding
    # pivot leaves no rest, and the integers grow no faster than they must.
    head = rows[at]
    result = []
    for k in range(len(rows)):
        if k == at:
            result.append(head[1:])
        else:
            result.append(combined(rows[k], head, scale))
    return result


def combined(row, head, scale):
    pivot = head[0]
    factor = row[0]
    return [(pivot * x - factor * y) // scale for x, y in zip(row[1:], head[1:])]
