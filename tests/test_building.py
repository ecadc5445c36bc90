import unittest

from anycompany.building import pay_row, prelude, scaled, steady, throw
from anycompany.games import make_game
from tests.support import COIN, HALF, frac, games, is_frozen, ratio_of, ring

ONE = (1, 1)
REWARDS = ((0, 1), (5, 1), (-7, 3), (10 ** 40, 3))


class BuildingTest(unittest.TestCase):
    def check_game(self, game, expected):
        self.assertEqual(game, expected)
        self.assertTrue(is_frozen(game))
        self.assertEqual(make_game(game[0], game[1]), game)


class Steady(BuildingTest):
    def test_steady(self):
        for reward in REWARDS:
            self.check_game(steady(reward), ((reward,), (((0, ONE),),)))


class Throw(BuildingTest):
    def test_example_of_the_document(self):
        self.check_game(
            throw((1, 1), (((2, 3), (0, 1)), ((1, 3), (1, 1)))),
            (((1, 1), (0, 1), (1, 1)), (((1, (2, 3)), (2, (1, 3))), ((1, (1, 1)),), ((2, (1, 1)),))))

    def test_one_outcome(self):
        for reward in REWARDS:
            self.check_game(throw(reward, ((ONE, (4, 1)),)), ((reward, (4, 1)), (((1, ONE),), ((1, ONE),))))

    def test_many_outcomes(self):
        for many in (2, 5, 23):
            outcomes = tuple((ratio_of(frac((1, many))), (many - k, 3) if (many - k) % 3 else (many, 1))
                             for k in range(many))
            self.check_game(throw((2, 1), outcomes), (
                ((2, 1),) + tuple(reward for _, reward in outcomes),
                (tuple((k + 1, (1, many)) for k in range(many)),) + tuple(((k + 1, ONE),) for k in range(many))))

    def test_equal_outcomes_stay_apart(self):
        self.check_game(throw(ONE, ((HALF, ONE), (HALF, ONE))),
                        ((ONE, ONE, ONE), (((1, HALF), (2, HALF)), ((1, ONE),), ((2, ONE),))))


class PayRow(BuildingTest):
    def test_each_state_back(self):
        rewards = REWARDS
        for back in range(4):
            self.check_game(pay_row(rewards, back), (
                rewards, (((1, ONE),), ((2, ONE),), ((3, ONE),), ((back, ONE),))))

    def test_one_reward(self):
        self.check_game(pay_row(((3, 1),), 0), steady((3, 1)))

    def test_ring_of_24_states(self):
        self.check_game(pay_row(tuple((k, 1) for k in range(24)), 0), ring(24))


class Prelude(BuildingTest):
    def test_one_part(self):
        self.check_game(prelude((7, 1), ((ONE, (COIN, 1)),)), (
            ((7, 1), (1, 1), (0, 1)), (((2, ONE),), ((1, HALF), (2, HALF)), ((2, ONE),))))

    def test_several_parts(self):
        parts = (((1, 6), (COIN, 0)), ((1, 3), (ring(3), 2)), (HALF, (steady((9, 1)), 0)))
        self.check_game(prelude((-1, 2), parts), (
            ((-1, 2), (1, 1), (0, 1), (0, 1), (1, 1), (2, 1), (9, 1)),
            (((1, (1, 6)), (5, (1, 3)), (6, HALF)),
             ((1, HALF), (2, HALF)), ((2, ONE),), ((4, ONE),), ((5, ONE),), ((3, ONE),), ((6, ONE),))))

    def test_the_same_place_twice(self):
        part = (COIN, 1)
        self.check_game(prelude((0, 1), (((1, 4), part), ((3, 4), part))), (
            ((0, 1), (1, 1), (0, 1), (1, 1), (0, 1)),
            (((2, (1, 4)), (4, (3, 4))), ((1, HALF), (2, HALF)), ((2, ONE),), ((3, HALF), (4, HALF)), ((4, ONE),))))

    def test_the_same_game_in_two_states(self):
        made = prelude((0, 1), ((HALF, (COIN, 1)), (HALF, (COIN, 0))))
        self.assertEqual(made[1][0], ((2, HALF), (3, HALF)))
        self.check_game(made, made)

    def test_a_prelude_of_preludes(self):
        for game in games():
            for state in range(len(game[0])):
                inner = prelude((1, 3), ((ONE, (game, state)),))
                outer = prelude((2, 3), ((HALF, (inner, 0)), (HALF, (game, state))))
                size = len(game[0])
                self.assertEqual(outer[0], ((2, 3), (1, 3)) + game[0] + game[0])
                self.assertEqual(outer[1][0], ((1, HALF), (2 + size + state, HALF)))
                self.assertEqual(outer[1][1], ((2 + state, ONE),))
                for at, row in enumerate(game[1]):
                    self.assertEqual(outer[1][2 + at], tuple((2 + k, chance) for k, chance in row))
                    self.assertEqual(outer[1][2 + size + at], tuple((2 + size + k, chance) for k, chance in row))
                self.check_game(outer, outer)


class Scaled(BuildingTest):
    def test_none(self):
        for game in games():
            self.check_game(scaled(game), game)

    def test_factor_alone(self):
        for game in games():
            for factor in ((2, 1), (1, 3), (10 ** 31, 7)):
                self.check_game(scaled(game, factor=factor), (
                    tuple(ratio_of(frac(reward) * frac(factor)) for reward in game[0]), game[1]))

    def test_shift_alone(self):
        for game in games():
            for shift in ((2, 1), (-1, 3), (-10 ** 31, 7)):
                self.check_game(scaled(game, shift=shift), (
                    tuple(ratio_of(frac(reward) + frac(shift)) for reward in game[0]), game[1]))

    def test_both(self):
        self.check_game(scaled(COIN, factor=(3, 1), shift=(1, 2)), (((7, 2), (1, 2)), COIN[1]))
        self.check_game(scaled(COIN, shift=(-3, 1), factor=(3, 1)), (((0, 1), (-3, 1)), COIN[1]))

    def test_factor_and_shift_are_passed_by_name(self):
        with self.assertRaises(TypeError):
            scaled(COIN, (1, 1))


if __name__ == "__main__":
    unittest.main()
