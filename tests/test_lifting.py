import random
import unittest
from fractions import Fraction

from anycompany.lifting import PRIME, solve_rows
from tests.support import frac, is_proper, ratio_of


def random_system(seed, size, *, most, below):
    """Rows in which the diagonal outweighs the rest, and sides; the same for the same seed."""
    rng = random.Random(seed)
    rows = []
    for k in range(size):
        row = {column: ratio_of(Fraction(rng.randint(-most, most), rng.randint(1, below)))
               for column in rng.sample(range(size), rng.randint(0, size))}
        row = {column: value for column, value in row.items() if value[0] != 0 and column != k}
        row[k] = ratio_of(rng.choice((-1, 1)) * (1 + sum(abs(frac(value)) for value in row.values())))
        rows.append(row)
    return rows, [ratio_of(Fraction(rng.randint(-most, most), rng.randint(1, below))) for _ in range(size)]


class SolveRows(unittest.TestCase):
    def check_system(self, rows, right):
        found = solve_rows(rows, right)
        self.assertEqual(len(found), len(rows))
        self.assertTrue(all(is_proper(value) for value in found))
        for row, side in zip(rows, right):
            self.assertEqual(sum((frac(value) * frac(found[column]) for column, value in row.items()), Fraction(0)),
                             frac(side))

    def test_systems_of_all_sizes(self):
        for size in (1, 2, 3, 5, 8, 13, 30):
            for most, below in ((1, 1), (9, 4), (10 ** 30, 7)):
                self.check_system(*random_system(size, size, most=most, below=below))

    def test_great_numbers(self):
        for size in (1, 2, 3, 5, 8):
            for most, below in ((10 ** 30, 10 ** 30), (10 ** 200, 7)):
                self.check_system(*random_system(size, size, most=most, below=below))

    def test_sides_of_zero(self):
        rows, _ = random_system(3, 6, most=9, below=9)
        self.assertEqual(solve_rows(rows, [(0, 1)] * 6), [(0, 1)] * 6)

    def test_great_sides(self):
        rows, _ = random_system(4, 6, most=9, below=9)
        self.check_system(rows, [(10 ** 500 + k, 3) for k in range(6)])

    def test_rows_without_an_inverse_modulo_the_prime(self):
        self.check_system([{0: (PRIME, 1)}], [(1, 1)])
        self.check_system([{0: (1, PRIME), 1: (1, 1)}, {0: (1, 1), 1: (1, 1)}], [(1, 1), (2, 3)])
        self.check_system([{1: (1, 1)}, {0: (1, 1)}], [(1, 2), (1, 3)])

    def test_numbers_that_the_prime_divides(self):
        self.check_system([{0: (1, PRIME), 1: (1, 2 * PRIME)}, {0: (1, 1), 1: (-1, 1)}], [(PRIME, 3), (1, PRIME)])
        self.check_system([{0: (2, 1)}], [(1, PRIME)])


if __name__ == "__main__":
    unittest.main()
