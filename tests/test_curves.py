import copy
import unittest
from fractions import Fraction
from itertools import product

from anycompany.curves import Curve
from anycompany.errors import BadKnot, NoKnots
from tests.support import (
    DISCOUNTS, HAIR, ErrorTest, amounts_for, check_knots, frac, is_proper, knot_rows, knots_by, ratio_of,
    slope_of, value_of,
)

ROWS = knot_rows()
PAIRS = list(product(ROWS, repeat=2))
BELOW_ONE = 1 - frac(HAIR)


def whole(*points):
    """Knots of whole numbers."""
    return tuple(((amount, 1), (value, 1)) for amount, value in points)


class Making(ErrorTest):
    def test_knots_in_lists_and_in_tuples(self):
        for knots in ROWS:
            for kind in (list, tuple):
                made = Curve(kind(knots))
                self.assertEqual(made.knots, knots)
                check_knots(self, made.knots)

    def test_the_list_stays_as_it_was_and_is_not_shared(self):
        for knots in ROWS:
            told = list(knots)
            made = Curve(told)
            self.assertEqual(told, list(knots))
            told[0] = ((-10 ** 9, 1), (10 ** 9, 1))
            told.append(((10 ** 50, 1), (10 ** 50, 1)))
            self.assertEqual(made.knots, knots)
            self.assertEqual(made.floor, knots[0][1])
            self.assertEqual(made.value((10 ** 49, 1)), (10 ** 49, 1))

    def test_200_knots(self):
        knots = knots_by(7, [Fraction(k, 300) for k in range(1, 200)], [Fraction(1, k) for k in range(1, 200)])
        self.assertEqual(len(knots), 200)
        made = Curve(list(knots))
        self.assertEqual(made.knots, knots)
        self.assertEqual(made.slope(knots[100][0]), (101, 300))

    def test_no_knots(self):
        for told in ([], ()):
            self.check_error(NoKnots, lambda: Curve(told))

    def test_amount_not_greater(self):
        good = whole((0, 4), (3, 5), (6, 7), (9, 9))
        for position in (1, 2, 3):
            for step in (0, -1, frac(HAIR), -10 ** 40):
                amount = ratio_of(frac(good[position - 1][0]) - abs(Fraction(step)))
                told = good[:position] + ((amount, good[position][1]),) + good[position + 1:]
                self.check_error(BadKnot, lambda: Curve(told), position=position)
        self.check_error(BadKnot, lambda: Curve(whole((2, 2), (2, 2))), position=1)
        self.check_error(BadKnot, lambda: Curve(whole((3, 3), (2, 2))), position=1)

    def test_slope_not_less_than_one(self):
        for told, position in (
                (whole((0, 0), (2, 2)), 1), (whole((0, 1), (2, 2), (3, 3)), 2), (whole((0, -1), (2, 2)), 1),
                (whole((0, 1), (2, 9), (9, 9)), 1), (whole((-6, 1), (0, 2), (1, 3), (3, 5)), 2)):
            self.check_error(BadKnot, lambda: Curve(list(told)), position=position)
        above = ((0, 1), ratio_of(-frac(HAIR)))
        self.check_error(BadKnot, lambda: Curve((above, ((2, 1), (2, 1)))), position=1)
        below = ((0, 1), HAIR)
        self.assertEqual(Curve((below, ((2, 1), (2, 1)))).knots, (below, ((2, 1), (2, 1))))

    def test_slope_not_greater_than_the_preceding_one(self):
        for told, position in (
                (whole((0, 4), (2, 5), (6, 7), (9, 9)), 2), (whole((0, 4), (1, 5), (6, 7), (9, 9)), 1),
                (whole((0, 3), (2, 4), (4, 5), (5, 5)), 2), (whole((-8, 2), (-6, 3), (-2, 4), (5, 5)), 2),
                (whole((0, 6), (4, 7), (8, 9), (9, 9)), 3)):
            self.check_error(BadKnot, lambda: Curve(told), position=position)
        third = (((-3, 1), ratio_of(Fraction(2, 3) + frac(HAIR))), ((-1, 1), (1, 1)), ((1, 1), (4, 3)),
                 ((2, 1), (2, 1)))
        self.assertEqual(Curve(third).knots, third)
        equal = (((-3, 1), (2, 3)),) + third[1:]
        self.check_error(BadKnot, lambda: Curve(equal), position=2)

    def test_first_slope_not_greater_than_zero(self):
        for told in (whole((0, 2), (2, 2)), whole((0, 3), (2, 2)), whole((0, 2), (1, 2), (3, 3)),
                     whole((0, 3), (1, 2), (3, 3))):
            self.check_error(BadKnot, lambda: Curve(told), position=1)

    def test_last_value_is_not_its_amount(self):
        for value in ((3, 1), (1, 1), (2 * 10 ** 30 + 1, 10 ** 30), (2 * 10 ** 30 - 1, 10 ** 30)):
            self.check_error(BadKnot, lambda: Curve([((2, 1), value)]), position=0)
        self.check_error(BadKnot, lambda: Curve((((0, 1), (1, 1)), ((2, 1), (5, 2)))), position=1)
        self.check_error(BadKnot, lambda: Curve((((0, 1), (1, 1)), ((2, 1), (3, 2)))), position=1)
        self.check_error(BadKnot, lambda: Curve(whole((-6, 1), (0, 2), (4, 5))), position=2)

    def test_several_wrong_positions(self):
        self.check_error(BadKnot, lambda: Curve(whole((0, 4), (0, 4), (6, 7), (9, 8))), position=1)
        self.check_error(BadKnot, lambda: Curve(whole((0, 4), (3, 5), (4, 9), (4, 4))), position=2)
        self.check_error(BadKnot, lambda: Curve(whole((0, 4), (3, 5), (6, 7), (5, 9))), position=3)
        self.check_error(BadKnot, lambda: Curve(whole((0, 4), (3, 4), (2, 4), (9, 1))), position=1)

    def test_an_early_knot_is_not_compared_with_its_amount(self):
        self.check_error(BadKnot, lambda: Curve(whole((2, 1), (1, 1))), position=1)

    def test_a_refused_row_changes_nothing(self):
        told = [((0, 1), (1, 1)), ((2, 1), (3, 1))]
        before = copy.deepcopy(told)
        for _ in range(2):
            self.check_error(BadKnot, lambda: Curve(told), position=1)
            self.check_error(NoKnots, lambda: Curve([]))
            self.assertEqual(told, before)
            self.assertEqual(Curve([told[0], ((2, 1), (2, 1))]).knots, whole((0, 1), (2, 2)))


class Reading(ErrorTest):
    def test_example_of_the_document(self):
        curve = Curve((((0, 1), (4, 3)), ((2, 1), (2, 1))))
        self.assertEqual(curve((1, 1)), (5, 3))
        self.assertEqual((curve * curve).knots, (((0, 1), (16, 9)), ((2, 1), (2, 1))))

    def test_floor_top_and_iteration(self):
        for knots in ROWS:
            curve = Curve(knots)
            self.assertEqual((curve.floor, curve.top), (knots[0][1], knots[-1][0]))
            self.assertEqual(list(curve), list(knots))
            self.assertEqual([amount for amount, _ in curve], [amount for amount, _ in knots])
            self.assertEqual(tuple(curve), curve.knots)

    def test_value_and_slope_everywhere(self):
        for knots in ROWS:
            curve = Curve(knots)
            for amount in amounts_for(knots):
                told = ratio_of(amount)
                self.assertEqual(curve.value(told), ratio_of(value_of(knots, amount)))
                self.assertEqual(curve(told), curve.value(told))
                self.assertEqual(curve.slope(told), ratio_of(slope_of(knots, amount)))

    def test_told_values_and_slopes(self):
        curve = Curve(whole((-6, 1), (0, 2), (4, 4)))
        for amount, value, slope in (
                ((-10 ** 40, 1), (1, 1), (0, 1)), ((-7, 1), (1, 1), (0, 1)), ((-6, 1), (1, 1), (1, 6)),
                ((-3, 1), (3, 2), (1, 6)), ((0, 1), (2, 1), (1, 2)), ((7, 3), (19, 6), (1, 2)),
                ((4, 1), (4, 1), (1, 1)), ((5, 1), (5, 1), (1, 1)), ((10 ** 40, 3), (10 ** 40, 3), (1, 1))):
            self.assertEqual((curve.value(amount), curve(amount), curve.slope(amount)), (value, value, slope))

    def test_one_knot(self):
        curve = Curve([((3, 2), (3, 2))])
        self.assertEqual((curve.floor, curve.top), ((3, 2), (3, 2)))
        for amount, value, slope in (((1, 1), (3, 2), (0, 1)), ((3, 2), (3, 2), (1, 1)), ((2, 1), (2, 1), (1, 1))):
            self.assertEqual((curve.value(amount), curve.slope(amount)), (value, slope))

    def test_fits(self):
        for knots in ROWS:
            curve = Curve(knots)
            greatest = max([slope_of(knots, frac(amount)) for amount, _ in knots[:-1]], default=Fraction(0))
            self.assertIs(curve.fits(ratio_of(greatest)), True)
            self.assertIs(curve.fits((0, 1)), len(knots) == 1)
            self.assertIs(curve.fits(ratio_of(max(greatest, BELOW_ONE))), True)
            if len(knots) > 1:
                self.assertIs(curve.fits(ratio_of(greatest * BELOW_ONE)), False)
            for discount in DISCOUNTS:
                self.assertIs(curve.fits(discount), greatest <= frac(discount))


class OperatorTest(ErrorTest):
    def combined(self, first, second, sign):
        """The curve of two rows of knots, which stay as they were."""
        one, two = Curve(first), Curve(second)
        made = {"*": lambda: one * two, "|": lambda: one | two, "&": lambda: one & two}[sign]()
        self.assertIsInstance(made, Curve)
        self.assertEqual((one.knots, two.knots), (first, second))
        check_knots(self, made.knots)
        return made

    def check_both_orders(self, sign):
        for first, second in PAIRS:
            self.assertEqual(self.combined(first, second, sign).knots, self.combined(second, first, sign).knots)


class Product(OperatorTest):
    def test_slope_is_the_product_of_the_slopes(self):
        for first, second in PAIRS:
            made = self.combined(first, second, "*")
            self.assertEqual(frac(made.top), max(frac(first[-1][0]), frac(second[-1][0])))
            for amount in amounts_for(first, second):
                self.assertEqual(frac(made.slope(ratio_of(amount))), slope_of(first, amount) * slope_of(second, amount))

    def test_order(self):
        self.check_both_orders("*")

    def test_grouping(self):
        for first, second, third in product(ROWS[3:16], repeat=3):
            one, two, three = Curve(first), Curve(second), Curve(third)
            self.assertEqual(((one * two) * three).knots, (one * (two * three)).knots)

    def test_one_knot_at_or_below_all_knots_changes_nothing(self):
        for knots in ROWS:
            for step in (Fraction(0), frac(HAIR), Fraction(1), Fraction(10 ** 40)):
                low = ratio_of(frac(knots[0][0]) - step)
                self.assertEqual(self.combined(knots, ((low, low),), "*").knots, knots)
                self.assertEqual(self.combined(((low, low),), knots, "*").knots, knots)

    def test_one_knot_above_all_knots_takes_over(self):
        for knots in ROWS:
            for step in (Fraction(0), frac(HAIR), Fraction(1)):
                high = ratio_of(frac(knots[-1][0]) + step)
                self.assertEqual(self.combined(knots, ((high, high),), "*").knots, ((high, high),))

    def test_told_products(self):
        first = whole((0, 4), (8, 8))
        self.assertEqual(self.combined(first, whole((4, 4)), "*").knots, whole((4, 6), (8, 8)))
        self.assertEqual(self.combined(first, whole((4, 8), (12, 12)), "*").knots, whole((4, 9), (8, 10), (12, 12)))


class Join(OperatorTest):
    def test_the_greater_value_everywhere(self):
        for first, second in PAIRS:
            made = self.combined(first, second, "|")
            for amount in amounts_for(first, second, made.knots):
                greater = max(value_of(first, amount), value_of(second, amount))
                self.assertEqual(frac(made.value(ratio_of(amount))), greater)

    def test_order(self):
        self.check_both_orders("|")

    def test_with_itself(self):
        for knots in ROWS:
            self.assertEqual(self.combined(knots, knots, "|").knots, knots)

    def test_crossing_between_knots(self):
        flat, steep = whole((0, 6), (8, 8)), whole((0, 5), (10, 10))
        self.assertEqual(self.combined(flat, steep, "|").knots, whole((0, 6), (4, 7), (10, 10)))

    def test_crossing_at_a_knot(self):
        flat, steep = whole((0, 6), (8, 8)), whole((-6, 6), (4, 7), (10, 10))
        self.assertEqual(self.combined(flat, steep, "|").knots, steep)

    def test_two_crossings(self):
        first, second = whole((0, 12), (16, 16)), whole((2, 13), (14, 15), (18, 18))
        self.assertEqual(self.combined(first, second, "|").knots,
                         whole((2, 13), (8, 14)) + (((15, 1), (63, 4)), ((18, 1), (18, 1))))


class Meet(OperatorTest):
    def test_nowhere_above_and_knots_on_one_of_the_curves(self):
        for first, second in PAIRS:
            made = self.combined(first, second, "&")
            for amount in amounts_for(first, second):
                lesser = min(value_of(first, amount), value_of(second, amount))
                self.assertLessEqual(frac(made.value(ratio_of(amount))), lesser)
            for amount, value in made:
                self.assertIn(frac(value), (value_of(first, frac(amount)), value_of(second, frac(amount))))

    def test_the_lower_hull_of_both(self):
        for first, second in PAIRS:
            made = self.combined(first, second, "&")
            points = [(frac(amount), frac(value)) for amount, value in first + second]
            for amount in amounts_for(first, second):
                # Straight lines between two points, and those to a point infinitely far left or right.
                bounds = [value for at, value in points if at >= amount]
                bounds += [value + amount - at for at, value in points if at <= amount]
                bounds += [low + (high - low) * (amount - left) / (right - left)
                           for left, low in points for right, high in points if left < right and left <= amount <= right]
                self.assertEqual(frac(made.value(ratio_of(amount))), min(bounds))

    def test_order(self):
        self.check_both_orders("&")

    def test_with_itself(self):
        for knots in ROWS:
            self.assertEqual(self.combined(knots, knots, "&").knots, knots)

    def test_a_curve_nowhere_above_both(self):
        low = [Curve(knots) for knots in ROWS]
        low += [Curve(first) & Curve(second) for first, second in PAIRS[::7]]
        for first, second in PAIRS:
            one, two = Curve(first), Curve(second)
            made = one & two
            for other in low:
                if one.never_below(other) and two.never_below(other):
                    self.assertIs(made.never_below(other), True)

    def test_told_meets(self):
        self.assertEqual(self.combined(whole((0, 6), (8, 8)), whole((0, 5), (10, 10)), "&").knots,
                         whole((0, 5), (8, 8)))
        self.assertEqual(self.combined(whole((2, 2)), whole((0, 1), (5, 5)), "&").knots, whole((0, 1), (2, 2)))
        self.assertEqual(self.combined(whole((3, 3)), whole((0, 6), (8, 8)), "&").knots, whole((3, 3)))


class Lack(ErrorTest):
    def test_the_greatest_difference_and_the_least_amount(self):
        for first, second in PAIRS:
            loss, where = Curve(first).lack(Curve(second))
            self.assertTrue(is_proper(loss))
            gaps = {amount: value_of(second, amount) - value_of(first, amount)
                    for amount in amounts_for(first, second)}
            self.assertEqual(frac(loss), max(gaps.values()))
            if frac(loss) == 0:
                self.assertIsNone(where)
            else:
                having = [amount for amount, _ in first + second if gaps[frac(amount)] == frac(loss)]
                self.assertEqual(where, min(having, key=frac))
            self.assertIs(Curve(first).never_below(Curve(second)), frac(loss) == 0)

    def test_against_itself(self):
        for knots in ROWS:
            self.assertEqual(Curve(knots).lack(Curve(knots)), ((0, 1), None))
            self.assertIs(Curve(knots).never_below(Curve(knots)), True)

    def test_told_lacks(self):
        low, high = Curve(whole((0, 5), (10, 10))), Curve(whole((0, 6), (8, 8)))
        self.assertEqual(low.lack(high), ((1, 1), (0, 1)))
        self.assertEqual(high.lack(low), ((1, 1), (8, 1)))
        self.assertEqual(Curve(whole((5, 5))).lack(Curve(whole((7, 7)))), ((2, 1), (5, 1)))
        self.assertEqual(Curve(whole((7, 7))).lack(Curve(whole((5, 5)))), ((0, 1), None))

    def test_the_least_of_several_amounts(self):
        low, high = Curve(whole((0, 6), (8, 8))), Curve(whole((0, 8), (8, 10), (12, 12)))
        self.assertEqual(low.lack(high), ((2, 1), (0, 1)))

    def test_a_hair(self):
        for knots in ROWS:
            top = ratio_of(frac(knots[-1][0]) + frac(HAIR))
            higher = Curve(knots) | Curve([(top, top)])
            self.assertIs(higher.never_below(Curve(knots)), True)
            self.assertIs(Curve(knots).never_below(higher), False)


if __name__ == "__main__":
    unittest.main()
