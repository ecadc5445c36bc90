import copy
import unittest
from fractions import Fraction

from anycompany.errors import (
    BadState, BadTarget, BadTotal, InvalidDiscount, NegativeProbability, NoStates, WrongLength,
)
from anycompany.games import (
    check_discount, make_game, make_place, reachable, steady_reward, steady_worth, trimmed,
)
from tests.support import (
    COIN, DISCOUNTS, GREAT_NUMBERS, HAIR, HALF, ErrorTest, frac, games, is_frozen, random_game, ratio_of, ring,
)

ONE = (1, 1)
ZERO = (0, 1)


class MakeGame(ErrorTest):
    def test_rows_in_lists_and_in_tuples(self):
        rows = [[(0, HALF), (1, HALF)], [(1, ONE)]]
        for kind in (list, tuple):
            for inner in (list, tuple):
                made = make_game(kind([ONE, ZERO]), kind(inner(row) for row in rows))
                self.assertEqual(made, COIN)
                self.assertTrue(is_frozen(made))

    def test_targets_in_any_order_and_several_times(self):
        row = [(2, (1, 4)), (0, (1, 6)), (2, (1, 4)), (1, (1, 6)), (0, (1, 6))]
        made = make_game([ZERO] * 3, [row, [(0, HALF), (0, HALF)], [(2, ONE)]])
        self.assertEqual(made[1], (((0, (1, 3)), (1, (1, 6)), (2, HALF)), ((0, ONE),), ((2, ONE),)))

    def test_targets_whose_sum_is_zero_are_left_out(self):
        made = make_game([ONE, ZERO], [[(1, ZERO), (0, ONE), (1, ZERO)], [(0, ZERO), (1, ONE), (1, ZERO)]])
        self.assertEqual(made[1], (((0, ONE),), ((1, ONE),)))

    def test_a_zero_beside_a_probability_of_the_same_target(self):
        made = make_game([ONE], [[(0, ZERO), (0, ONE)]])
        self.assertEqual(made[1], (((0, ONE),),))

    def test_the_returned_game_again(self):
        for game in games() + [random_game(99, 24)]:
            self.assertEqual(make_game(*game), game)
            self.assertEqual(make_game(list(game[0]), [list(row) for row in game[1]]), game)
            turned = make_game(list(game[0]), [list(row)[::-1] for row in game[1]])
            self.assertEqual(turned, game)
            self.assertTrue(is_frozen(turned))

    def test_lists_stay_as_they_were_and_are_not_shared(self):
        rewards = [ONE, ZERO]
        moves = [[(1, HALF), (0, (1, 4)), (0, (1, 4)), (1, ZERO)], [(1, ONE)]]
        before = copy.deepcopy((rewards, moves))
        made = make_game(rewards, moves)
        self.assertEqual((rewards, moves), before)
        rewards[0] = (5, 1)
        moves[0].clear()
        moves.clear()
        self.assertEqual(made, COIN)

    def test_lists_stay_as_they_were_when_an_error_is_raised(self):
        rewards = [ONE, ZERO]
        moves = [[(1, HALF), (0, HALF)], [(1, HALF)]]
        before = copy.deepcopy((rewards, moves))
        self.check_error(BadTotal, lambda: make_game(rewards, moves), state=1)
        self.assertEqual((rewards, moves), before)


class MakeGameErrors(ErrorTest):
    def test_no_states(self):
        for rewards, moves in (([], []), ((), ()), ([], [[(0, ONE)]]), ((), ((), ()))):
            self.check_error(NoStates, lambda: make_game(rewards, moves))

    def test_wrong_length(self):
        for rewards, moves in (([ONE], []), ([ONE], [[(0, ONE)], [(0, ONE)]]), ([ONE], [[], []]),
                               ((ONE, ONE), (((5, ONE),),))):
            self.check_error(WrongLength, lambda: make_game(rewards, moves))

    def test_bad_target(self):
        for target in (-1, -2, -3, 2, 3, 10 ** 30, -10 ** 30) + GREAT_NUMBERS:
            for state in (0, 1):
                rows = [[(0, ONE)], [(1, ONE)]]
                rows[state] = [(0, HALF), (target, HALF)]
                self.check_error(BadTarget, lambda: make_game([ONE, ONE], rows), state=state)

    def test_bad_target_with_probability_zero(self):
        self.check_error(BadTarget, lambda: make_game([ONE], [[(0, ONE), (1, ZERO)]]), state=0)

    def test_negative_probability(self):
        for state in (0, 1):
            for low in ((-1, 2), (-1, 10 ** 30), (-5, 1)):
                rows = [[(0, ONE)], [(1, ONE)]]
                rows[state] = [(0, ratio_of(1 - frac(low))), (1, low)]
                self.check_error(NegativeProbability, lambda: make_game([ONE, ONE], rows), state=state)

    def test_negative_probability_of_a_target_with_a_proper_sum(self):
        row = [(0, (3, 2)), (0, (-1, 2))]
        self.check_error(NegativeProbability, lambda: make_game([ONE], [row]), state=0)
        self.check_error(NegativeProbability, lambda: make_game([ONE], [row[::-1]]), state=0)

    def test_bad_total(self):
        above = (10 ** 30 + 1, 10 ** 30)
        below = (10 ** 30 - 1, 10 ** 30)
        for row in ([], [(0, HALF)], [(0, ONE), (1, HALF)], [(0, above)], [(0, below)], [(1, (2, 1))], [(0, ZERO)],
                    [(0, (1, 3)), (1, (1, 3)), (0, (1, 4))]):
            for state in (0, 1):
                rows = [[(0, ONE)], [(1, ONE)]]
                rows[state] = row
                self.check_error(BadTotal, lambda: make_game([ONE, ONE], rows), state=state)

    def test_order_of_no_states_and_wrong_length(self):
        self.check_error(NoStates, lambda: make_game([], [[(7, (-1, 1))]]))
        self.check_error(WrongLength, lambda: make_game([ONE], [[(7, (-1, 1))], []]))

    def test_order_within_a_pair(self):
        self.check_error(BadTarget, lambda: make_game([ONE], [[(1, (-1, 1))]]), state=0)
        self.check_error(BadTarget, lambda: make_game([ONE], [[(-1, (-1, 1))]]), state=0)

    def test_order_of_pairs(self):
        good = (0, ONE)
        bad = (1, ONE)
        negative = (0, (-1, 1))
        self.check_error(BadTarget, lambda: make_game([ONE], [[good, bad, negative]]), state=0)
        self.check_error(NegativeProbability, lambda: make_game([ONE], [[good, negative, bad]]), state=0)

    def test_bad_total_comes_after_all_pairs_of_the_state(self):
        self.check_error(BadTarget, lambda: make_game([ONE], [[(0, (3, 1)), (1, ZERO)]]), state=0)
        self.check_error(NegativeProbability, lambda: make_game([ONE], [[(0, (3, 1)), (0, (-2, 1))]]), state=0)

    def test_order_of_states(self):
        good = [(0, ONE)]
        wrong = ((BadTarget, [(9, ONE)]), (NegativeProbability, [(0, (-1, 1))]), (BadTotal, []))
        for first, row in wrong:
            for _, later in wrong:
                self.check_error(first, lambda: make_game([ONE] * 3, [good, row, later]), state=1)
                self.check_error(first, lambda: make_game([ONE] * 3, [row, later, good]), state=0)

    def test_the_next_call_works(self):
        self.check_error(BadTotal, lambda: make_game([ONE], [[]]), state=0)
        self.assertEqual(make_game([ONE], [[(0, ONE)]]), ((ONE,), (((0, ONE),),)))


class MakePlace(ErrorTest):
    def test_each_state(self):
        for game in games():
            for state in range(len(game[0])):
                self.assertEqual(make_place(game, state), (game, state))

    def test_bad_state(self):
        for game in games():
            size = len(game[0])
            for state in (-1, -size, -size - 1, size, size + 1, 10 ** 30, -10 ** 30) + GREAT_NUMBERS:
                self.check_error(BadState, lambda: make_place(game, state), state=state)


class Discounts(ErrorTest):
    def test_discounts(self):
        for discount in DISCOUNTS + (HAIR,):
            self.assertIsNone(check_discount(discount))

    def test_invalid_discounts(self):
        for discount in ((1, 1), (-1, 10 ** 30), (10 ** 30 + 1, 10 ** 30), (-1, 1), (2, 1), (-10 ** 30, 1)):
            self.check_error(InvalidDiscount, lambda: check_discount(discount))

    def test_worth_and_reward(self):
        self.assertEqual(steady_worth((3, 1), HALF), (6, 1))
        self.assertEqual(steady_reward((6, 1), HALF), (3, 1))
        self.assertEqual(steady_worth((-1, 3), (9, 10)), (-10, 3))
        self.assertEqual(steady_worth((5, 7), ZERO), (5, 7))
        self.assertEqual(steady_reward((5, 7), ZERO), (5, 7))

    def test_one_undoes_the_other(self):
        for discount in DISCOUNTS:
            for amount in (ZERO, ONE, (-7, 3), (10 ** 40, 3), (1, 10 ** 40 + 1)):
                worth = steady_worth(amount, discount)
                self.assertEqual(frac(worth), frac(amount) + frac(discount) * frac(worth))
                self.assertEqual(steady_reward(worth, discount), amount)
                self.assertEqual(steady_worth(steady_reward(amount, discount), discount), amount)


def reached(game, state):
    """The reachable states, by walking as often as there are states."""
    found = {state}
    for _ in game[0]:
        found |= {target for here in found for target, _ in game[1][here]}
    return tuple(sorted(found))


class Reachable(unittest.TestCase):
    def test_start_itself(self):
        self.assertEqual(reachable(COIN, 0), (0, 1))
        self.assertEqual(reachable(COIN, 1), (1,))

    def test_loops(self):
        for state in range(24):
            self.assertEqual(reachable(ring(24), state), tuple(range(24)))
        pairs = (((0, 1),) * 4, (((2, ONE),), ((3, ONE),), ((0, ONE),), ((1, ONE),)))
        self.assertEqual(reachable(pairs, 2), (0, 2))
        self.assertEqual(reachable(pairs, 1), (1, 3))

    def test_only_the_way_back(self):
        down = (((0, 1),) * 24, tuple(((max(k - 1, 0), ONE),) for k in range(24)))
        for state in range(24):
            self.assertEqual(reachable(down, state), tuple(range(state + 1)))

    def test_all_games(self):
        for game in games() + [random_game(seed, 24, spread=2) for seed in range(5)]:
            for state in range(len(game[0])):
                told = reachable(game, state)
                self.assertEqual(told, reached(game, state))
                self.assertTrue(is_frozen(told))


class Trimmed(unittest.TestCase):
    def test_states_keep_their_order(self):
        game = (((0, 1), (1, 1), (2, 1), (3, 1), (4, 1)),
                (((1, ONE),), ((1, HALF), (4, HALF)), ((0, ONE),), ((3, ONE),), ((1, (1, 3)), (4, (2, 3)))))
        self.assertEqual(trimmed((game, 4)), ((((1, 1), (4, 1)), (((0, HALF), (1, HALF)), ((0, (1, 3)), (1, (2, 3))))), 1))
        self.assertEqual(trimmed((game, 3)), ((((3, 1),), (((0, ONE),),)), 0))
        self.assertEqual(trimmed((game, 2))[1], 2)
        self.assertEqual(trimmed((game, 2))[0][0], ((0, 1), (1, 1), (2, 1), (4, 1)))

    def test_nothing_to_trim(self):
        self.assertEqual(trimmed((ring(24), 5)), (ring(24), 5))
        self.assertEqual(trimmed((COIN, 0)), (COIN, 0))

    def test_all_games(self):
        for game in games() + [random_game(seed, 24, spread=2) for seed in range(3)]:
            for state in range(len(game[0])):
                kept = reached(game, state)
                (rewards, moves), place = trimmed((game, state))
                self.assertEqual(kept[place], state)
                self.assertEqual(rewards, tuple(game[0][old] for old in kept))
                self.assertEqual(tuple(tuple((kept[target], chance) for target, chance in row) for row in moves),
                                 tuple(game[1][old] for old in kept))
                self.assertTrue(is_frozen((rewards, moves)))

    def test_trimming_twice_changes_nothing(self):
        for game in games():
            for state in range(len(game[0])):
                once = trimmed((game, state))
                self.assertEqual(trimmed(once), once)
                self.assertEqual(make_game(*once[0]), once[0])
                self.assertEqual(sum(Fraction(*chance) for _, chance in once[0][1][once[1]]), 1)


if __name__ == "__main__":
    unittest.main()
