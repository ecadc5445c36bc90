import random
import unittest
from fractions import Fraction

from anycompany.linear import solve
from tests.support import frac, is_frozen, is_proper, ratio_of


def ratios(rows):
    """A matrix or right side of numbers as tuples of ratios."""
    return tuple(tuple(ratio_of(number) for number in row) for row in rows)


def random_rows(rng, height, width, *, most=4, lowest=3):
    return [[Fraction(rng.randint(-most, most), rng.randint(1, lowest)) for _ in range(width)]
            for _ in range(height)]


def has_dependency(rows):
    """Whether the rows of a square matrix depend on each other, by plain elimination."""
    rows = [list(row) for row in rows]
    for column in range(len(rows)):
        found = [k for k in range(column, len(rows)) if rows[k][column] != 0]
        if not found:
            return True
        rows[column], rows[found[0]] = rows[found[0]], rows[column]
        for k in range(column + 1, len(rows)):
            factor = rows[k][column] / rows[column][column]
            rows[k] = [x - factor * y for x, y in zip(rows[k], rows[column])]
    return False


class SolveTest(unittest.TestCase):
    def check_solution(self, matrix, right):
        kind, x = solve(matrix, right)
        self.assertEqual(kind, "solution")
        self.assertTrue(is_frozen(x))
        self.assertEqual(len(x), len(matrix))
        for row in x:
            self.assertTrue(all(is_proper(value) for value in row), row)
        for row, side in zip(matrix, right):
            product = [sum((frac(entry) * frac(x[k][at]) for k, entry in enumerate(row)), Fraction(0))
                       for at in range(len(side))]
            self.assertEqual(product, [frac(value) for value in side])
        for row in x:
            self.assertEqual(len(row), len(right[0]))

    def check_dependency(self, matrix, right):
        kind, y = solve(matrix, right)
        self.assertEqual(kind, "dependency")
        self.assertIs(type(y), tuple)
        self.assertEqual(len(y), len(matrix))
        self.assertTrue(all(is_proper(value) for value in y), y)
        self.assertTrue(any(value != (0, 1) for value in y))
        for column in range(len(matrix)):
            self.assertEqual(sum(frac(y[k]) * frac(matrix[k][column]) for k in range(len(matrix))), 0)

    def check_dependent(self, rows):
        """A dependency is told whatever the right side is."""
        matrix = ratios(rows)
        size = len(rows)
        sides = [((),) * size, (((0, 1),),) * size, tuple(((k, 1), (1, 3)) for k in range(size))]
        # The row sums: a right side for which there are solutions, more than one of them.
        sides.append(ratios([[sum(row)] for row in rows]))
        for right in sides:
            self.check_dependency(matrix, right)


class Solutions(SolveTest):
    def test_example_of_the_document(self):
        self.assertEqual(solve((((2, 1), (1, 1)), ((1, 1), (1, 1))), (((3, 1),), ((1, 1),))),
                         ("solution", (((2, 1),), ((-1, 1),))))

    def test_no_rows(self):
        self.assertEqual(solve((), ()), ("solution", ()))

    def test_one_row(self):
        self.assertEqual(solve((((-2, 3),),), (((4, 5),),)), ("solution", (((-6, 5),),)))
        self.assertEqual(solve((((7, 1),),), (((0, 1), (7, 2)),)), ("solution", (((0, 1), (1, 2)),)))

    def test_no_columns_on_the_right(self):
        self.assertEqual(solve((((5, 1),),), ((),)), ("solution", ((),)))
        self.assertEqual(solve(ratios([[0, 1], [1, 0]]), ((), ())), ("solution", ((), ())))
        self.assertEqual(solve(ratios([[1, 1], [1, 0]]), ((), ()))[0], "solution")

    def test_first_entry_is_zero(self):
        self.check_solution(ratios([[0, 2], [3, 4]]), ratios([[1], [2]]))
        self.check_solution(ratios([[0, 0, 1], [0, 1, 0], [1, 0, 0]]), ratios([[1, 5], [2, 6], [3, 7]]))
        self.check_solution(ratios([[0, 0, 2, 1], [0, 3, 1, 1], [0, 3, 2, 2], [4, 1, 1, 1]]),
                            ratios([[1], [2], [3], [4]]))

    def test_zero_comes_up_in_the_middle(self):
        self.check_solution(ratios([[1, 1, 1], [1, 1, 2], [1, 2, 1]]), ratios([[1], [2], [3]]))

    def test_random_systems(self):
        rng = random.Random(1)
        found = 0
        for size in range(1, 8):
            for columns in range(1, 4):
                for _ in range(6):
                    rows = random_rows(rng, size, size)
                    if not has_dependency(rows):
                        found += 1
                        self.check_solution(ratios(rows), ratios(random_rows(rng, size, columns)))
        self.assertGreater(found, 100)

    def test_many_zeros(self):
        rng = random.Random(2)
        seen = {True: 0, False: 0}
        for _ in range(200):
            size = rng.randint(2, 5)
            rows = [[rng.choice((0, 0, 0, 1, -1, Fraction(1, 2))) for _ in range(size)] for _ in range(size)]
            dependent = has_dependency(rows)
            seen[dependent] += 1
            if dependent:
                self.check_dependent(rows)
            else:
                self.check_solution(ratios(rows), ratios(random_rows(rng, size, 2)))
        self.assertGreater(min(seen.values()), 20)

    def test_large_numbers(self):
        rng = random.Random(3)
        rows = random_rows(rng, 6, 6, most=10 ** 40, lowest=10 ** 31)
        self.check_solution(ratios(rows), ratios(random_rows(rng, 6, 2, most=10 ** 40, lowest=10 ** 31)))

    def test_sixty_rows(self):
        rng = random.Random(4)
        rows = random_rows(rng, 60, 60, most=9, lowest=2)
        self.check_solution(ratios(rows), ratios(random_rows(rng, 60, 1)))


class Dependencies(SolveTest):
    def test_zero_rows_everywhere(self):
        self.check_dependent([[0]])
        self.check_dependent([[0, 0], [0, 0]])

    def test_zero_row_at_each_place(self):
        for at in range(4):
            rows = random_rows(random.Random(5), 4, 4)
            rows[at] = [0] * 4
            self.check_dependent(rows)

    def test_repeated_row_at_each_place(self):
        for one in range(4):
            for other in range(4):
                if one != other:
                    rows = random_rows(random.Random(6), 4, 4)
                    rows[one] = list(rows[other])
                    self.check_dependent(rows)

    def test_sum_of_other_rows(self):
        for at in range(5):
            rows = random_rows(random.Random(7), 5, 5)
            others = [rows[k] for k in range(5) if k != at]
            rows[at] = [sum(column) for column in zip(*others[:3])]
            self.check_dependent(rows)

    def test_sum_of_other_rows_beside_zero_rows(self):
        for at in range(5):
            for zero in range(5):
                rows = random_rows(random.Random(8), 5, 5)
                rows[zero] = [0] * 5
                rows[at] = [2 * x - Fraction(y, 3) for x, y in zip(rows[at - 1], rows[at - 2])]
                self.check_dependent(rows)

    def test_zero_column(self):
        for at in range(4):
            rows = [[0 if k == at else value for k, value in enumerate(row)]
                    for row in random_rows(random.Random(9), 4, 4)]
            self.check_dependent(rows)

    def test_proportional_rows_of_large_numbers(self):
        rows = random_rows(random.Random(10), 4, 4, most=10 ** 40, lowest=10 ** 31)
        rows[2] = [value * Fraction(10 ** 33, 7) for value in rows[0]]
        self.check_dependent(rows)

    def test_a_hair_from_a_dependency(self):
        self.check_dependent([[1, 2], [2, 4]])
        self.check_solution(ratios([[1, 2], [2, 4 + Fraction(1, 10 ** 30)]]), ratios([[1], [2]]))

    def test_sixty_rows(self):
        rows = random_rows(random.Random(11), 60, 60, most=9, lowest=1)
        rows[31] = [x + y for x, y in zip(rows[7], rows[53])]
        self.check_dependency(ratios(rows), ((),) * 60)


if __name__ == "__main__":
    unittest.main()
