import unittest
from fractions import Fraction

from anycompany.building import prelude, scaled, steady
from anycompany.curves import Curve
from anycompany.errors import SteepCurve
from anycompany.games import make_game, trimmed
from anycompany.indices import indices
from anycompany.leaving import leave_values
from anycompany.profiles import game_curve, standard_game, stop_table
from tests.support import (
    COIN, DISCOUNTS, HAIR, HALF, ErrorTest, amounts_for, check_knots, frac, games, is_frozen, is_proper, knot_rows,
    knots_by, mean_after, random_game, random_knots, ratio_of, ring,
)

ONE = (1, 1)
ZERO = (0, 1)


def amounts_of(game, discount):
    """Stop amounts: the indexes, a hair beside them, between them, and far away."""
    return amounts_for([(index, index) for index in indices(game, discount)])


class StopTable(unittest.TestCase):
    def check_table(self, game, amount, discount):
        """The equation of the document in each state."""
        table = stop_table(game, amount, discount)
        self.assertTrue(is_frozen(table))
        self.assertEqual(len(table), len(game[0]))
        for state, entry in enumerate(table):
            self.assertTrue(is_proper(entry))
            later = mean_after(game, state, lambda target: frac(table[target]))
            self.assertEqual(frac(entry), max(frac(amount), frac(game[0][state]) + frac(discount) * later))

    def test_equation(self):
        for game in games():
            for discount in DISCOUNTS:
                with self.subTest(game=game, discount=discount):
                    for amount in amounts_of(game, discount):
                        self.check_table(game, ratio_of(amount), discount)

    def test_told_tables(self):
        for amount, table in (((1, 1), ((5, 3), ONE)), ((2, 1), ((2, 1), (2, 1))), ((-5, 1), ((4, 3), ZERO)),
                              ((0, 1), ((4, 3), ZERO)), ((10 ** 40, 1), ((10 ** 40, 1), (10 ** 40, 1)))):
            self.assertEqual(stop_table(COIN, amount, HALF), table)

    def test_discount_zero(self):
        for game in games():
            for amount in (ZERO, ONE, (-3, 2)):
                self.assertEqual(stop_table(game, amount, ZERO),
                                 tuple(max(reward, amount, key=frac) for reward in game[0]))

    def test_24_states(self):
        for game in (random_game(1, 24), random_game(2, 24, spread=24), ring(24), (((1, 3),) * 24, ring(24)[1])):
            for amount in (ZERO, (3, 1), (-100, 1), (10 ** 9, 1)):
                self.check_table(game, amount, (9, 10))


class GameCurve(unittest.TestCase):
    def check_curve(self, game, state, discount, tables):
        """The curve of the state has the entries of the stop tables, a dict by amount."""
        curve = game_curve((game, state), discount)
        self.assertIsInstance(curve, Curve)
        check_knots(self, curve.knots)
        self.assertIs(curve.fits(discount), True)
        self.assertEqual(curve.top, indices(game, discount)[state])
        forever = leave_values(game, tuple(range(len(game[0]))), discount)
        self.assertEqual(curve.floor, forever[state][0])
        for amount, table in tables.items():
            self.assertEqual(curve.value(ratio_of(amount)), table[state])

    def test_example_of_the_document(self):
        self.assertEqual(game_curve((COIN, 0), HALF).knots, ((ZERO, (4, 3)), ((2, 1), (2, 1))))
        self.assertEqual(game_curve((COIN, 1), HALF).knots, ((ZERO, ZERO),))

    def test_value_is_the_entry_of_the_stop_table(self):
        for game in games():
            for discount in DISCOUNTS:
                with self.subTest(game=game, discount=discount):
                    tables = {amount: stop_table(game, ratio_of(amount), discount)
                              for amount in amounts_of(game, discount)}
                    for state in range(len(game[0])):
                        self.check_curve(game, state, discount, tables)

    def test_24_states(self):
        for game in (random_game(1, 24), random_game(2, 24, spread=24), ring(24)):
            tables = {amount: stop_table(game, ratio_of(amount), (9, 10))
                      for amount in amounts_of(game, (9, 10))[::9]}
            for state in (0, 7, 23):
                self.check_curve(game, state, (9, 10), tables)

    def test_equal_indexes_in_several_states(self):
        game = (((2, 1),) * 4, random_game(3, 4)[1])
        for state in range(4):
            self.assertEqual(game_curve((game, state), HALF).knots, (((4, 1), (4, 1)),))
        game = ((ONE, ONE, ZERO, ZERO), (((1, HALF), (2, HALF)), ((0, HALF), (3, HALF)), ((2, ONE),), ((3, ONE),)))
        for state in (0, 1):
            self.assertEqual(game_curve((game, state), HALF).knots, ((ZERO, (4, 3)), ((2, 1), (2, 1))))

    def test_states_that_are_not_reachable(self):
        game = (((1, 1), (0, 1), (1, 2), (7, 1)), COIN[1] + (((2, ONE),), ((0, HALF), (2, HALF))))
        self.assertEqual(game_curve((game, 0), HALF).knots, game_curve((COIN, 0), HALF).knots)
        self.assertEqual(game_curve((game, 1), HALF).knots, ((ZERO, ZERO),))
        self.assertEqual(game_curve((game, 2), HALF).knots, ((ONE, ONE),))

    def test_steady(self):
        for reward in (ZERO, ONE, (-7, 3), (10 ** 40, 3)):
            for discount in DISCOUNTS:
                worth = ratio_of(frac(reward) / (1 - frac(discount)))
                self.assertEqual(game_curve((steady(reward), 0), discount).knots, ((worth, worth),))

    def test_trimmed(self):
        for game in games():
            for state in range(len(game[0])):
                for discount in (ZERO, (9, 10)):
                    self.assertEqual(game_curve(trimmed((game, state)), discount).knots,
                                     game_curve((game, state), discount).knots)

    def test_scaled(self):
        for game in games():
            for factor, shift in (((3, 2), ZERO), (ONE, (-5, 3)), ((1, 10 ** 20), (10 ** 20, 1))):
                for state in range(len(game[0])):
                    further = frac(shift) / (1 - frac(HALF))
                    wanted = tuple(tuple(ratio_of(frac(factor) * frac(part) + further) for part in knot)
                                   for knot in game_curve((game, state), HALF))
                    made = scaled(game, factor=factor, shift=shift)
                    self.assertEqual(game_curve((made, state), HALF).knots, wanted)

    def test_prelude(self):
        parts = (((1, 6), (COIN, 0)), ((1, 3), (ring(3), 2)), (HALF, (COIN, 0)))
        for reward in (ZERO, (7, 1), (-7, 1)):
            for discount in (HALF, (9, 10), ZERO):
                made = game_curve((prelude(reward, parts), 0), discount)
                check_knots(self, made.knots)
                below = [game_curve(place, discount) for _, place in parts]
                for amount in amounts_for(made.knots, *[curve.knots for curve in below]):
                    told = ratio_of(amount)
                    later = sum(frac(part[0]) * frac(curve(told)) for part, curve in zip(parts, below))
                    self.assertEqual(frac(made(told)), max(amount, frac(reward) + frac(discount) * later))


class StandardGame(ErrorTest):
    def check_game(self, knots, discount):
        """The game of the document exactly, and its curve."""
        game = standard_game(Curve(knots), discount)
        self.assertTrue(is_frozen(game))
        self.assertEqual(make_game(*game), game)
        left = 1 - frac(discount)
        rewards = [ratio_of(left * frac(amount)) for amount, _ in knots]
        if len(knots) == 1:
            self.assertEqual(game, steady(rewards[0]))
        else:
            slopes = [(frac(high[1]) - frac(low[1])) / (frac(high[0]) - frac(low[0]))
                      for low, high in zip(knots, knots[1:])]
            bounds = [Fraction(0)] + [slope / frac(discount) for slope in slopes] + [Fraction(1)]
            chances = [high - low for low, high in zip(bounds, bounds[1:]) if high != low]
            size = len(chances)
            self.assertEqual(game[0], (rewards[-1],) + tuple(rewards[:size]))
            self.assertEqual(game[1][0], tuple((k + 1, ratio_of(chance)) for k, chance in enumerate(chances)))
            self.assertEqual(game[1][1:], tuple(((k, ONE),) for k in range(1, size + 1)))
        self.assertEqual(game_curve((game, 0), discount).knots, knots)

    def test_example_of_the_document(self):
        self.assertEqual(
            standard_game(game_curve((COIN, 0), HALF), HALF),
            ((ONE, ZERO, ONE), (((1, (2, 3)), (2, (1, 3))), ((1, ONE),), ((2, ONE),))))

    def test_one_knot(self):
        for discount in DISCOUNTS:
            for top in (-5, 0, Fraction(7, 3), 10 ** 40):
                self.check_game(knots_by(top, (), ()), discount)

    def test_greatest_slope_equal_to_the_discount_and_less(self):
        for discount in DISCOUNTS[1:]:
            b = frac(discount)
            for slopes in ([b], [b / 2, b], [b / 3, b / 2, b], [b - frac(HAIR) / 10], [b / 2], [b / 5, b / 4, b / 3]):
                self.check_game(knots_by(Fraction(9, 2), slopes, [k + Fraction(1, 3) for k in range(len(slopes))]),
                                discount)

    def test_many_knots(self):
        for discount in (HALF, (9, 10)):
            for seed in range(8):
                self.check_game(random_knots(seed, 1 + seed, greatest=frac(discount)), discount)
            self.check_game(random_knots(9, 22, greatest=frac(discount)), discount)

    def test_steep_curves(self):
        for discount in DISCOUNTS:
            for knots in knot_rows():
                curve = Curve(knots)
                if curve.fits(discount):
                    self.check_game(knots, discount)
                else:
                    self.check_error(SteepCurve, lambda: standard_game(curve, discount))
                self.assertEqual(curve.knots, knots)
        above = Curve(knots_by(2, [frac(HALF) + frac(HAIR)], [1]))
        self.check_error(SteepCurve, lambda: standard_game(above, HALF))
        self.check_error(SteepCurve, lambda: standard_game(Curve(knots_by(2, [frac(HAIR)], [1])), ZERO))

    def test_games_and_their_standard_games_have_one_curve(self):
        for game in games():
            for discount in DISCOUNTS:
                for state in range(len(game[0])):
                    curve = game_curve((game, state), discount)
                    self.check_game(curve.knots, discount)


if __name__ == "__main__":
    unittest.main()
