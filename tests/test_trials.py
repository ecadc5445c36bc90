import unittest
from fractions import Fraction
from itertools import product

from anycompany.comparing import never_worse
from anycompany.errors import ImpossibleRecord
from anycompany.games import make_game
from anycompany.indices import indices
from anycompany.leaving import leave_values
from anycompany.profiles import game_curve
from anycompany.trials import evidence, mean, records, trial_game
from tests.support import HAIR, HALF, ErrorTest, frac, is_frozen, is_proper

ZERO = (0, 1)
ONE = (1, 1)
SURE = ((ONE, ZERO), (ONE, ONE))
# One hypothesis and several, odds of zero and one, great weights, the same odds twice.
SEVERAL = (
    SURE, ((ONE, HALF),), (((7, 3), ZERO),), (((1, 9), ONE),), ((ONE, ZERO), ((2, 1), HALF)),
    (((3, 1), (1, 3)), ((1, 2), (2, 3))), (((10 ** 40, 3), (1, 7)), (HAIR, (6, 7)), (ONE, ONE)),
    ((ONE, (1, 4)), ((2, 5), (1, 4)), (ONE, (3, 4))), ((HAIR, HAIR), ((10 ** 30, 1), ZERO), (ONE, ONE)),
)
DISCOUNTS = (ZERO, (1, 3), (9, 10), (10 ** 30 - 1, 10 ** 30))


def evidence_told(hypotheses, successes, failures):
    found = Fraction(0)
    for weight, odds in hypotheses:
        part = frac(weight)
        for _ in range(successes):
            part *= frac(odds)
        for _ in range(failures):
            part *= 1 - frac(odds)
        found += part
    return found


class Evidence(ErrorTest):
    def test_sum_over_the_hypotheses(self):
        for hypotheses in SEVERAL:
            for successes, failures in product(range(7), repeat=2):
                found = evidence(hypotheses, successes, failures)
                self.assertTrue(is_proper(found))
                self.assertEqual(frac(found), evidence_told(hypotheses, successes, failures))

    def test_power_of_no_trials(self):
        self.assertEqual(evidence(SURE, 0, 0), (2, 1))
        self.assertEqual(evidence(SURE, 3, 0), ONE)
        self.assertEqual(evidence(SURE, 0, 3), ONE)
        self.assertEqual(evidence(SURE, 1, 1), ZERO)
        self.assertEqual(evidence((((7, 3), ZERO),), 0, 9), (7, 3))
        self.assertEqual(evidence((((7, 3), ZERO),), 1, 0), ZERO)
        self.assertEqual(evidence((((1, 9), ONE),), 9, 0), (1, 9))
        self.assertEqual(evidence((((1, 9), ONE),), 0, 1), ZERO)

    def test_many_trials(self):
        self.assertEqual(evidence(((ONE, HALF),), 400, 300), (1, 2 ** 700))
        for hypotheses in SEVERAL:
            self.assertEqual(frac(evidence(hypotheses, 200, 150)), evidence_told(hypotheses, 200, 150))


class Mean(ErrorTest):
    def test_quotient_of_evidences(self):
        for hypotheses in SEVERAL:
            for successes, failures in product(range(6), repeat=2):
                known = evidence_told(hypotheses, successes, failures)
                if known != 0:
                    found = mean(hypotheses, successes, failures)
                    self.assertTrue(is_proper(found))
                    self.assertEqual(frac(found), evidence_told(hypotheses, successes + 1, failures) / known)
                    self.assertTrue(0 <= frac(found) <= 1)

    def test_impossible_records(self):
        for hypotheses in (SURE, (((7, 3), ZERO),), (((1, 9), ONE),)):
            self.check_error(ImpossibleRecord, lambda told=hypotheses: mean(told, 1, 1))
        self.check_error(ImpossibleRecord, lambda: mean((((7, 3), ZERO),), 1, 0))
        self.check_error(ImpossibleRecord, lambda: mean((((1, 9), ONE),), 0, 1))
        self.check_error(ImpossibleRecord, lambda: mean(SURE, 500, 1))

    def test_a_right_record_after_a_refused_one(self):
        self.check_error(ImpossibleRecord, lambda: mean(SURE, 2, 5))
        self.assertEqual(mean(SURE, 2, 0), ONE)
        self.assertEqual(mean(SURE, 0, 5), ZERO)

    def test_told(self):
        self.assertEqual(mean(SURE, 0, 0), HALF)
        # The weights 3 and 1/2, after one success 1 and 1/3.
        self.assertEqual(mean((((3, 1), (1, 3)), ((1, 2), (2, 3))), 0, 0), (8, 21))
        self.assertEqual(mean((((3, 1), (1, 3)), ((1, 2), (2, 3))), 1, 0), (5, 12))
        self.assertEqual(mean(((ONE, HALF),), 300, 1), HALF)

    def test_many_trials(self):
        found = mean(((ONE, (1, 3)), (ONE, (2, 3))), 0, 300)
        self.assertEqual(frac(found), (Fraction(1) * 2 ** 300 + 2) / (3 * (2 ** 300 + 1)))


class Records(ErrorTest):
    def test_possible_ones_in_order(self):
        for hypotheses in SEVERAL:
            for rounds in range(6):
                found = records(hypotheses, rounds)
                self.assertTrue(is_frozen(found))
                wanted = [(successes, trials - successes) for trials in range(rounds + 1)
                          for successes in range(trials + 1)
                          if evidence_told(hypotheses, successes, trials - successes) > 0]
                self.assertEqual(list(found), wanted)

    def test_told(self):
        self.assertEqual(records(SURE, 1), ((0, 0), (0, 1), (1, 0)))
        self.assertEqual(records(SURE, 3), ((0, 0), (0, 1), (1, 0), (0, 2), (2, 0), (0, 3), (3, 0)))
        self.assertEqual(records(((ONE, HALF),), 2), ((0, 0), (0, 1), (1, 0), (0, 2), (1, 1), (2, 0)))
        self.assertEqual(records((((7, 3), ZERO),), 3), ((0, 0), (0, 1), (0, 2), (0, 3)))
        self.assertEqual(records((((1, 9), ONE),), 3), ((0, 0), (1, 0), (2, 0), (3, 0)))
        for hypotheses in SEVERAL:
            self.assertEqual(records(hypotheses, 0), ((0, 0),))


class TrialGame(ErrorTest):
    def test_the_game_of_the_document(self):
        for hypotheses in SEVERAL:
            for rounds in range(5):
                game = trial_game(hypotheses, rounds)
                self.assertTrue(is_frozen(game))
                listed = records(hypotheses, rounds)
                rewards, moves = game
                self.assertEqual((len(rewards), len(moves)), (len(listed), len(listed)))
                for state, (successes, failures) in enumerate(listed):
                    chance = frac(mean(hypotheses, successes, failures))
                    self.assertEqual(frac(rewards[state]), chance)
                    wanted = {state: 1}
                    if successes + failures < rounds:
                        wanted = {(successes + 1, failures): chance, (successes, failures + 1): 1 - chance}
                        wanted = {listed.index(after): part for after, part in wanted.items() if part != 0}
                    self.assertEqual({target: frac(part) for target, part in moves[state]}, wanted)
                self.assertEqual(game, make_game(*game))

    def test_told(self):
        self.assertEqual(trial_game(SURE, 1),
                         (((1, 2), (0, 1), (1, 1)), (((1, (1, 2)), (2, (1, 2))), ((1, (1, 1)),), ((2, (1, 1)),))))
        self.assertEqual(trial_game(SURE, 0), ((HALF,), (((0, ONE),),)))
        # Moves of probability zero are left out, before the last round as well.
        self.assertEqual(trial_game((((7, 3), ZERO),), 2), ((ZERO,) * 3, (((1, ONE),), ((2, ONE),), ((2, ONE),))))
        self.assertEqual(trial_game((((1, 9), ONE),), 2), ((ONE,) * 3, (((1, ONE),), ((2, ONE),), ((2, ONE),))))
        self.assertEqual(trial_game(SURE, 2)[1],
                         (((1, HALF), (2, HALF)), ((3, ONE),), ((4, ONE),), ((3, ONE),), ((4, ONE),)))

    def test_playing_it_forever(self):
        for hypotheses in SEVERAL:
            for rounds in range(4):
                game = trial_game(hypotheses, rounds)
                states = tuple(range(len(game[0])))
                for discount in DISCOUNTS:
                    worths = [frac(reward) / (1 - frac(discount)) for reward in game[0]]
                    self.assertEqual([frac(earned) for earned, _ in leave_values(game, states, discount)], worths)
                    for index, worth in zip(indices(game, discount), worths):
                        self.assertGreaterEqual(frac(index), worth)

    def test_one_more_round(self):
        for hypotheses in SEVERAL:
            for rounds in range(4):
                few, more = trial_game(hypotheses, rounds), trial_game(hypotheses, rounds + 1)
                for discount in ((1, 3), (9, 10)):
                    self.assertIs(never_worse((more, 0), (few, 0), discount), True)
                    self.assertEqual(game_curve((more, 0), discount).floor, game_curve((few, 0), discount).floor)

    def test_more_states_than_promised(self):
        game = trial_game((((3, 1), (1, 3)), ((1, 2), (2, 3))), 7)
        self.assertEqual(len(game[0]), 36)
        self.assertEqual(game, make_game(*game))


if __name__ == "__main__":
    unittest.main()
