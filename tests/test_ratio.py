import copy
import unittest
from fractions import Fraction

from anycompany import errors
from anycompany.errors import AnycompanyError, ZeroDenominator
from anycompany.ratio import (
    add, compare, divide, is_ratio, largest, make_ratio, multiply, power, subtract, total,
)
from tests.support import frac, is_proper, ratio_of

BIG = 10 ** 30
NUMBERS = (0, 1, -1, 2, -2, 6, -15, BIG, -BIG - 1, BIG ** 3 + 7)
RATIOS = ((0, 1), (1, 1), (-1, 1), (1, 2), (-1, 2), (2, 3), (-7, 6), (5, 6), (BIG, 1),
          (1, BIG), (-1, BIG + 1), (BIG + 1, BIG), (BIG ** 2 + 1, BIG ** 2 - 1))


class RatioTest(unittest.TestCase):
    def check(self, result, number):
        """The result is the ratio of the number that Python's own fractions tell."""
        self.assertTrue(is_proper(result), result)
        self.assertEqual(result, ratio_of(number))


class MakeRatio(RatioTest):
    def test_examples_of_the_document(self):
        self.assertEqual(make_ratio(6, -4), (-3, 2))

    def test_lowest_terms_and_sign(self):
        self.assertEqual(make_ratio(4, 6), (2, 3))
        self.assertEqual(make_ratio(-4, 6), (-2, 3))
        self.assertEqual(make_ratio(4, -6), (-2, 3))
        self.assertEqual(make_ratio(-4, -6), (2, 3))
        self.assertEqual(make_ratio(5, 1), (5, 1))
        self.assertEqual(make_ratio(5, 5), (1, 1))

    def test_zero_has_one_ratio(self):
        for d in (1, -1, 5, -5, BIG, -BIG):
            self.assertEqual(make_ratio(0, d), (0, 1))

    def test_all_numbers(self):
        for n in NUMBERS:
            for d in NUMBERS:
                if d != 0:
                    with self.subTest(n=n, d=d):
                        self.check(make_ratio(n, d), Fraction(n, d))

    def test_negated_and_multiplied_numbers_give_the_same_ratio(self):
        for n in NUMBERS:
            for d in (1, -3, 14, BIG + 1):
                for factor in (-1, 2, -6, BIG, -BIG - 7):
                    with self.subTest(n=n, d=d, factor=factor):
                        self.assertEqual(make_ratio(n * factor, d * factor), make_ratio(n, d))

    def test_zero_denominator(self):
        others = [value for value in vars(errors).values()
                  if isinstance(value, type) and value not in (AnycompanyError, ZeroDenominator)]
        for n in NUMBERS:
            with self.subTest(n), self.assertRaises(ZeroDenominator) as caught:
                make_ratio(n, 0)
            self.assertIsInstance(caught.exception, AnycompanyError)
            self.assertIsInstance(caught.exception, ValueError)
            for other in others:
                self.assertNotIsInstance(caught.exception, other)


class IsRatio(unittest.TestCase):
    def test_ratios(self):
        for value in RATIOS:
            self.assertIs(is_ratio(value), True, value)

    def test_tuples_that_are_no_ratios(self):
        for value in (
                (2, 4), (-2, 4), (0, 2), (0, BIG), (2 * BIG, 4), (BIG, BIG), (1, 0), (0, 0), (5, 0), (1, -1),
                (0, -1), (-1, -2), (1, -BIG), (True, 1), (1, True), (False, 1), (True, True), (1, False),
                (None, 1), (1, None), (None, None), ("1", 1), (1, "1"), ("1", "2"), ("", ""), ([1], 1),
                (1, [1]), ((1, 2), 1), (1, (1, 2)), ([], []), ((), ()), ((1, 2), (1, 2)),
                (), (1,), ((1, 2),), (1, 2, 3), (1, 1, 1), (0, 1, 1), ("a", "b", "c")):
            self.assertIs(is_ratio(value), False, value)

    def test_values_that_are_no_tuples(self):
        for value in ([1, 2], [0, 1], [1], [], [1, 2, 3], [(1, 2)], None, 0, 1, 2, -1, BIG, "", "1/2", "12", "(1, 2)"):
            self.assertIs(is_ratio(value), False, value)

    def test_a_list_stays_as_it_was(self):
        for value in ([1, 2], [4, -2], [[1], (2, 3), None], ([4], [6])):
            before = copy.deepcopy(value)
            is_ratio(value)
            self.assertEqual(value, before)


class Arithmetic(RatioTest):
    def test_examples_of_the_document(self):
        self.assertEqual(add((1, 2), (1, 6)), (2, 3))

    def test_all_pairs_in_both_orders(self):
        for a in RATIOS:
            for b in RATIOS:
                with self.subTest(a=a, b=b):
                    self.check(add(a, b), frac(a) + frac(b))
                    self.check(subtract(a, b), frac(a) - frac(b))
                    self.check(multiply(a, b), frac(a) * frac(b))
                    if b != (0, 1):
                        self.check(divide(a, b), frac(a) / frac(b))

    def test_results_that_become_shorter(self):
        self.assertEqual(add((1, 2), (-1, 2)), (0, 1))
        self.assertEqual(subtract((7, 3), (1, 3)), (2, 1))
        self.assertEqual(multiply((2, 3), (3, 2)), (1, 1))
        self.assertEqual(multiply((0, 1), (5, 7)), (0, 1))
        self.assertEqual(divide((-2, 3), (-2, 3)), (1, 1))
        self.assertEqual(divide((1, 2), (-1, 3)), (-3, 2))
        self.assertEqual(divide((0, 1), (-1, 3)), (0, 1))

    def test_division_by_zero(self):
        for a in RATIOS:
            with self.subTest(a), self.assertRaises(ZeroDenominator):
                divide(a, (0, 1))
            self.assertEqual(divide((1, 2), (3, 1)), (1, 6))

    def test_arguments_are_passed_by_name(self):
        self.assertEqual(make_ratio(d=4, n=2), (1, 2))
        self.assertEqual(subtract(b=(1, 2), a=(1, 1)), (1, 2))
        self.assertEqual(divide(b=(1, 2), a=(1, 1)), (2, 1))
        self.assertEqual(power(k=2, a=(2, 3)), (4, 9))


class Compare(unittest.TestCase):
    def test_all_pairs(self):
        for a in RATIOS:
            for b in RATIOS:
                with self.subTest(a=a, b=b):
                    told = compare(a, b)
                    self.assertIs(type(told), int)
                    self.assertEqual(told, (frac(a) > frac(b)) - (frac(a) < frac(b)))

    def test_a_hair(self):
        self.assertEqual(compare((1, BIG + 1), (1, BIG)), -1)
        self.assertEqual(compare((1, BIG), (1, BIG + 1)), 1)
        self.assertEqual(compare((-1, BIG), (-1, BIG + 1)), -1)
        self.assertEqual(compare((-1, BIG), (-1, BIG)), 0)


class ManyRatios(RatioTest):
    def test_total(self):
        for many in range(len(RATIOS) + 1):
            for values in (RATIOS[:many], list(RATIOS[:many]), RATIOS[:many][::-1]):
                self.check(total(values), sum((frac(value) for value in values), Fraction(0)))

    def test_total_of_no_ratios(self):
        self.assertEqual(total(()), (0, 1))
        self.assertEqual(total([]), (0, 1))

    def test_largest(self):
        for start in range(len(RATIOS)):
            for values in (RATIOS[start:], list(RATIOS[start:]), RATIOS[start:][::-1], RATIOS[:start + 1]):
                self.check(largest(values), max(frac(value) for value in values))

    def test_largest_of_negative_and_equal_ratios(self):
        self.assertEqual(largest([(-1, 2)]), (-1, 2))
        self.assertEqual(largest(((-3, 1), (-1, 2), (-2, 1))), (-1, 2))
        self.assertEqual(largest([(1, 3), (1, 3)]), (1, 3))

    def test_a_list_stays_as_it_was(self):
        values = [(3, 1), (-1, 2), (5, 7)]
        before = list(values)
        total(values)
        largest(values)
        self.assertEqual(values, before)


class Power(RatioTest):
    def test_small_exponents(self):
        for a in RATIOS:
            for k in range(9):
                with self.subTest(a=a, k=k):
                    self.check(power(a, k), frac(a) ** k)

    def test_power_zero(self):
        for a in RATIOS:
            self.assertEqual(power(a, 0), (1, 1))

    def test_large_exponents(self):
        for a in ((1, 2), (-2, 3), (9, 10), (7, 1)):
            for k in (63, 64, 65, 1000, 4097):
                self.check(power(a, k), frac(a) ** k)
        self.assertEqual(power((1, 1), 10 ** 40), (1, 1))
        self.assertEqual(power((0, 1), 10 ** 40), (0, 1))
        self.assertEqual(power((-1, 1), 10 ** 40), (1, 1))
        self.assertEqual(power((-1, 1), 10 ** 40 + 1), (-1, 1))


if __name__ == "__main__":
    unittest.main()
