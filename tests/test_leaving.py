import unittest

from anycompany.leaving import excursion, leave_values
from tests.support import COIN, DISCOUNTS, HALF, frac, games, is_frozen, is_proper, mean_after, random_game, ring, sets_of


class LeavingTest(unittest.TestCase):
    def check_pair(self, game, state, values, pair, discount):
        """The two equations of the document, with the leave values of the set on the right."""
        earned, factor = pair
        self.assertTrue(is_proper(earned) and is_proper(factor), pair)
        b = frac(discount)
        gain = mean_after(game, state, lambda target: frac(values[target][0]) if target in values else 0)
        late = mean_after(game, state, lambda target: frac(values[target][1]) if target in values else 1)
        self.assertEqual(frac(earned), frac(game[0][state]) + b * gain)
        self.assertEqual(frac(factor), b * late)

    def check_set(self, game, inside, discount):
        told = leave_values(game, inside, discount)
        self.assertTrue(is_frozen(told))
        self.assertEqual(len(told), len(inside))
        values = dict(zip(inside, told))
        for state in inside:
            self.check_pair(game, state, values, values[state], discount)
        for state in range(len(game[0])):
            pair = excursion(game, state, inside, discount)
            self.assertTrue(is_frozen(pair))
            self.check_pair(game, state, values, pair, discount)
            if state in values:
                self.assertEqual(pair, values[state])


class LeaveValues(LeavingTest):
    def test_told_values(self):
        self.assertEqual(leave_values(COIN, (0,), HALF), (((4, 3), (1, 3)),))
        self.assertEqual(leave_values(COIN, (1,), HALF), (((0, 1), (0, 1)),))
        self.assertEqual(leave_values(ring(3), (1, 2), HALF), (((2, 1), (1, 4)), ((2, 1), (1, 2))))

    def test_no_states_inside(self):
        for game in games():
            self.assertEqual(leave_values(game, (), HALF), ())

    def test_all_states_inside(self):
        for game in games():
            for discount in DISCOUNTS:
                told = leave_values(game, tuple(range(len(game[0]))), discount)
                self.assertEqual([factor for _, factor in told], [(0, 1)] * len(game[0]))

    def test_every_set(self):
        for game in games():
            for inside in sets_of(len(game[0])):
                for discount in DISCOUNTS:
                    with self.subTest(game=game, inside=inside, discount=discount):
                        self.check_set(game, inside, discount)

    def test_games_of_24_states(self):
        for spread in (2, 24):
            game = random_game(spread, 24, spread=spread)
            for inside in ((), (23,), tuple(range(0, 24, 2)), tuple(range(20)), tuple(range(24))):
                self.check_set(game, inside, (9, 10))


class Excursion(LeavingTest):
    def test_from_outside_and_inside(self):
        self.assertEqual(excursion(COIN, 0, (), HALF), ((1, 1), (1, 2)))
        self.assertEqual(excursion(COIN, 1, (), HALF), ((0, 1), (1, 2)))
        self.assertEqual(excursion(COIN, 0, (0,), HALF), ((4, 3), (1, 3)))
        self.assertEqual(excursion(COIN, 0, (1,), HALF), ((1, 1), (1, 4)))
        self.assertEqual(excursion(COIN, 0, (0, 1), HALF), ((4, 3), (0, 1)))

    def test_discount_zero(self):
        for game in games():
            for state, reward in enumerate(game[0]):
                self.assertEqual(excursion(game, state, (0,), (0, 1)), (reward, (0, 1)))

    def test_one_step_when_nothing_is_inside(self):
        for game in games():
            for state, reward in enumerate(game[0]):
                self.assertEqual(excursion(game, state, (), (9, 10)), (reward, (9, 10)))


if __name__ == "__main__":
    unittest.main()
