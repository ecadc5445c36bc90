import unittest
from fractions import Fraction
from functools import lru_cache
from itertools import permutations

from anycompany.building import steady
from anycompany.companies import best_gain, best_step, company_curve, moved, play_value, step_cost
from anycompany.indices import indices
from anycompany.profiles import game_curve
from tests.support import (
    COIN, HALF, check_knots, companies, frac, gain_of, is_frozen, is_proper, mean_after, random_game, ratio_of, slope_of,
    stops_for, value_of,
)

ZERO = (0, 1)
SOME = ((0, 1), HALF, (9, 10), (10 ** 30 - 1, 10 ** 30))


@lru_cache(None)
def knots_of(place, discount):
    return game_curve(place, discount).knots


def rows_of(company, discount):
    return [knots_of(place, discount) for place in company]


def indexes_of(company, discount):
    return [indices(game, discount)[state] for game, state in company]


def cases():
    """Each company with each discount and each stop amount that matters for it."""
    for company in companies():
        for discount in SOME:
            for stop in stops_for(indexes_of(company, discount)):
                yield company, discount, stop


def words(stop):
    """The keyword left out where there is no stop amount."""
    return {} if stop is None else {"stop": stop}


class CompanyCurve(unittest.TestCase):
    def test_slope_is_the_product_of_the_slopes(self):
        for company in companies():
            for discount in SOME:
                curve = company_curve(company, discount)
                check_knots(self, curve.knots)
                rows = rows_of(company, discount)
                self.assertEqual(frac(curve.top), max(frac(knots[-1][0]) for knots in rows))
                for amount in sorted({amount for knots in rows for amount, _ in knots}):
                    product = Fraction(1)
                    for knots in rows:
                        product *= slope_of(knots, frac(amount))
                    self.assertEqual(frac(curve.slope(amount)), product)

    def test_every_order(self):
        for company in companies():
            knots = company_curve(company, HALF).knots
            for order in permutations(company):
                self.assertEqual(company_curve(order, HALF).knots, knots)

    def test_one_place(self):
        for company in companies():
            for place in company:
                self.assertEqual(company_curve((place,), HALF).knots, knots_of(place, HALF))

    def test_the_same_place_several_times(self):
        curve = game_curve((COIN, 0), HALF)
        self.assertEqual(company_curve(((COIN, 0),) * 2, HALF).knots, (curve * curve).knots)
        self.assertEqual(company_curve(((COIN, 0),) * 9, HALF).knots,
                         ((ZERO, ratio_of(2 - 2 * Fraction(1, 3) ** 9)), ((2, 1), (2, 1))))

    def test_nine_places(self):
        company = tuple((random_game(50 + k, 6), k % 6) for k in range(9))
        curve = company_curve(company, (9, 10))
        check_knots(self, curve.knots)
        self.assertEqual(frac(curve.floor), gain_of(rows_of(company, (9, 10)), None))


class BestGain(unittest.TestCase):
    def test_examples_of_the_document(self):
        self.assertEqual(best_gain(((COIN, 0), (COIN, 0)), HALF), (16, 9))
        self.assertEqual(best_gain(((COIN, 0),), HALF, stop=(1, 1)), (5, 3))

    def test_value_of_the_curve(self):
        for company, discount, stop in cases():
            gain = best_gain(company, discount, **words(stop))
            self.assertTrue(is_proper(gain))
            self.assertEqual(frac(gain), gain_of(rows_of(company, discount), stop))

    def test_without_a_stop_amount(self):
        for company in companies():
            told = best_gain(company, HALF)
            self.assertEqual(best_gain(company, HALF, stop=None), told)
            self.assertEqual(company_curve(company, HALF).floor, told)
            self.assertEqual(best_gain(company, HALF, stop=(-10 ** 42, 1)), told)

    def test_steady_games(self):
        company = tuple((steady((reward, 1)), 0) for reward in (3, 5, 4))
        self.assertEqual(best_gain(company, HALF), (10, 1))
        self.assertEqual(best_gain(company, HALF, stop=(11, 1)), (11, 1))

    def test_stop_is_passed_by_name(self):
        for call in (best_gain, best_step):
            with self.assertRaises(TypeError):
                call(((COIN, 0),), HALF, (1, 1))
        for call in (play_value, step_cost):
            with self.assertRaises(TypeError):
                call(((COIN, 0),), 0, HALF, (1, 1))


class BestStep(unittest.TestCase):
    def test_greatest_index_at_the_least_position(self):
        for company, discount, stop in cases():
            step = best_step(company, discount, **words(stop))
            indexes = [frac(index) for index in indexes_of(company, discount)]
            if stop is not None and max(indexes) <= frac(stop):
                self.assertIsNone(step)
            else:
                self.assertIs(type(step), int)
                self.assertEqual(step, indexes.index(max(indexes)))

    def test_told_steps(self):
        half = steady((1, 1))
        company = ((COIN, 1), (COIN, 0), (half, 0), (COIN, 0))
        self.assertEqual(best_step(company, HALF), 1)
        self.assertEqual(best_step(company, HALF, stop=None), 1)
        self.assertEqual(best_step(((half, 0), (COIN, 0)), HALF), 0)
        self.assertEqual(best_step(((COIN, 1), (COIN, 1)), HALF), 0)
        self.assertIsNone(best_step(company, HALF, stop=(2, 1)))
        self.assertIsNone(best_step(company, HALF, stop=(2 * 10 ** 30 + 1, 10 ** 30)))
        self.assertEqual(best_step(company, HALF, stop=(2 * 10 ** 30 - 1, 10 ** 30)), 1)


class Moved(unittest.TestCase):
    def test_each_position_and_state(self):
        for company in companies():
            for position, (game, _) in enumerate(company):
                for state in range(len(game[0])):
                    wanted = list(company)
                    wanted[position] = (game, state)
                    told = moved(company, position, state)
                    self.assertEqual(told, tuple(wanted))
                    self.assertTrue(is_frozen(told))


class Costs(unittest.TestCase):
    def play_of(self, company, position, discount, stop):
        game, state = company[position]
        later = mean_after(game, state, lambda target: gain_of(rows_of(moved(company, position, target), discount), stop))
        return frac(game[0][state]) + frac(discount) * later

    def test_play_value_and_cost(self):
        for company, discount, stop in cases():
            gain = gain_of(rows_of(company, discount), stop)
            for position in range(len(company)):
                value = play_value(company, position, discount, **words(stop))
                self.assertTrue(is_proper(value))
                self.assertEqual(frac(value), self.play_of(company, position, discount, stop))
                cost = step_cost(company, position, discount, **words(stop))
                self.assertTrue(is_proper(cost))
                self.assertEqual(frac(cost), gain - frac(value))
                self.assertGreaterEqual(frac(cost), 0)
            step = best_step(company, discount, **words(stop))
            if step is None:
                self.assertEqual(gain, frac(stop))
            else:
                self.assertEqual(step_cost(company, step, discount, **words(stop)), ZERO)

    def defect(self, place, discount, amount):
        game, state = place
        later = mean_after(game, state, lambda target: value_of(knots_of((game, target), discount), amount))
        return value_of(knots_of(place, discount), amount) - frac(game[0][state]) - frac(discount) * later

    def cost_by_curves(self, company, position, discount, stop):
        """The sum of the document: the defect at each amount times the jump of the product of the other slopes."""
        others = rows_of(company[:position] + company[position + 1:], discount)
        states = [(game, state) for game, _ in company for state in range(len(game[0]))]
        low = min(frac(amount) for knots in rows_of(states, discount) for amount, _ in knots) - 1
        if stop is not None:
            low = frac(stop)
        amounts = sorted({frac(amount) for knots in others for amount, _ in knots if frac(amount) > low})
        before = Fraction(0)
        cost = Fraction(0)
        for amount in [low] + amounts:
            product = Fraction(1)
            for knots in others:
                product *= slope_of(knots, amount)
            cost += self.defect(company[position], discount, amount) * (product - before)
            before = product
        return cost

    def test_cost_by_the_curves_alone(self):
        for company, discount, stop in cases():
            for position in range(len(company)):
                self.assertEqual(frac(step_cost(company, position, discount, **words(stop))),
                                 self.cost_by_curves(company, position, discount, stop))

    def test_told_costs(self):
        half = (steady((1, 2)), 0)
        self.assertEqual(play_value((half, (COIN, 0)), 1, HALF), (5, 3))
        self.assertEqual(play_value((half, (COIN, 0)), 0, HALF), (4, 3))
        self.assertEqual(step_cost((half, (COIN, 0)), 1, HALF), ZERO)
        self.assertEqual(step_cost((half, (COIN, 0)), 0, HALF), (1, 3))
        self.assertEqual(step_cost((half, (COIN, 0)), 0, HALF, stop=None), (1, 3))
        self.assertEqual(play_value((half,), 0, HALF, stop=(4, 1)), (5, 2))
        self.assertEqual(step_cost((half,), 0, HALF, stop=(4, 1)), (3, 2))


if __name__ == "__main__":
    unittest.main()
