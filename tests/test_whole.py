"""What the document promises over the whole program: nothing that is passed is modified, nothing is shared."""

import copy
import unittest

from anycompany import (
    building, companies, comparing, copies, games, house, indices, jobs, leaving, linear, profiles, ratio, reading,
    region, stationary, tables, tolls, trees, trials, visits, writing,
)
from anycompany.curves import Curve
from tests.support import COIN, HALF, is_frozen

ONE = (1, 1)
FLAT = building.steady(HALF)
COMPANY = ((COIN, 0), (FLAT, 0), (COIN, 1))
GAMES = tuple(game for game, _ in COMPANY)
PAIR = ((COIN, 0), (COIN, 0))
ORDER = ((0, 0), (1, 0), (0, 1), (1, 1))
KNOTS = (((0, 1), (4, 3)), ((2, 1), (2, 1)))
PLAN = ("play", 0, (("best",), ("play", 1, (("stop",),))))
SURE = ((ONE, (0, 1)), (ONE, ONE))
LENGTHS = ((1, (1, 3)), (2, (2, 3)))
BOOK = (HALF, (("coin", COIN),), (("coin", 1),))
# Calls whose arguments and results are tuples, ratios and integers alone.
CALLS = (
    (ratio.add, HALF, ONE), (ratio.total, (HALF, ONE)), (ratio.largest, (HALF, ONE)), (ratio.power, HALF, 3),
    (games.make_game, *COIN), (games.make_place, COIN, 1), (games.reachable, COIN, 0), (games.trimmed, (COIN, 1)),
    (games.steady_worth, ONE, HALF), (games.steady_reward, ONE, HALF), (building.steady, ONE),
    (building.throw, ONE, ((HALF, ONE), (HALF, HALF))), (building.pay_row, (ONE, HALF), 0),
    (building.prelude, ONE, ((HALF, (COIN, 0)), (HALF, (FLAT, 0)))), (building.scaled, COIN),
    (leaving.leave_values, COIN, (0,), HALF), (leaving.excursion, COIN, 0, (0,), HALF),
    (indices.index_order, COIN, HALF), (indices.indices, COIN, HALF), (indices.index_paper, COIN, 1, HALF),
    (profiles.stop_table, COIN, ONE, HALF), (companies.best_gain, COMPANY, HALF), (companies.best_step, COMPANY, HALF),
    (companies.moved, COMPANY, 0, 1), (companies.play_value, COMPANY, 1, HALF), (companies.step_cost, COMPANY, 1, HALF),
    (tables.joint_states, GAMES), (tables.value_table, GAMES, HALF), (tables.first_misfit, GAMES, (ONE,) * 4, HALF),
    (stationary.choice_values, GAMES, (0,) * 4, HALF), (stationary.improved, GAMES, (0,) * 4, HALF),
    (stationary.settled, GAMES, (0,) * 4, HALF), (stationary.choice_costs, GAMES, (0,) * 4, HALF),
    (stationary.choice_losses, GAMES, (0,) * 4, HALF), (comparing.shortlist, COMPANY, HALF),
    (comparing.greatest_loss, (FLAT, 0), (COIN, 0), HALF), (comparing.parting_reward, (FLAT, 0), (COIN, 0), HALF),
    (comparing.distance, *PAIR, HALF), (comparing.joined, *PAIR, HALF), (comparing.met, *PAIR, HALF),
    (comparing.single, COMPANY, HALF), (tolls.with_toll, (COIN, 0), ONE), (tolls.fair_toll, *PAIR, HALF),
    (copies.copies_gain, (COIN, 0), 3, HALF), (copies.shortage, (COIN, 0), 3, HALF),
    (copies.enough_copies, (COIN, 0), (1, 9), HALF), (visits.pairs_of, COMPANY),
    (visits.choice_visits, COMPANY, (0,) * 4, HALF), (visits.order_visits, PAIR, ORDER, HALF),
    (visits.visits_gain, PAIR, (ONE,) * 4), (region.rule, PAIR, ((0, 1), (1, 0)), HALF),
    (region.broken_set, PAIR, (ONE,) * 4, HALF), (region.mixture, PAIR, ((4, 3), (2, 9), (4, 9), (0, 1)), HALF),
    (trials.evidence, SURE, 1, 0), (trials.mean, SURE, 1, 0), (trials.records, SURE, 2), (trials.trial_game, SURE, 2),
    (jobs.job_game, ONE, LENGTHS), (jobs.finishing_chance, LENGTHS, 0), (jobs.spell, ONE, LENGTHS, 0, 1, HALF),
    (jobs.job_index, ONE, LENGTHS, 0, HALF), (jobs.order_gain, ((ONE, 2), (HALF, 1)), (1, 0), HALF),
    (jobs.order_by_index, ((ONE, 2), (HALF, 1)), HALF), (reading.read_ratio, "1/2"), (reading.company_of, BOOK),
)


class Whole(unittest.TestCase):
    def test_results_are_tuples_and_integers(self):
        for function, *arguments in CALLS:
            with self.subTest(function.__name__):
                kept = copy.deepcopy(arguments)
                found = function(*arguments)
                self.assertTrue(is_frozen(found))
                self.assertEqual(arguments, kept)
                self.assertEqual(function(*arguments), found)

    def test_plans_and_books(self):
        for function in (trees.plan_gain, trees.plan_costs, trees.plan_loss):
            self.assertTrue(is_frozen(function(COMPANY, PLAN, HALF, stop=ONE)))
        self.assertEqual(trees.best_plan(COMPANY, 1, HALF), ("play", 0, (("best",), ("best",))))
        self.assertEqual(reading.read_book(writing.write_book(BOOK)), BOOK)
        self.assertIs(type(reading.read_book(writing.write_book(BOOK))[1][0]), tuple)
        matrix = ((ONE, ONE), (ONE, ONE))
        self.assertTrue(is_frozen(linear.solve(matrix, ((), ()))[1]))

    def test_lists_stay_as_they_are(self):
        rewards, moves = list(COIN[0]), [[(1, HALF), (0, HALF)], [(1, ONE)]]
        game = games.make_game(rewards, moves)
        self.assertEqual((rewards, moves), (list(COIN[0]), [[(1, HALF), (0, HALF)], [(1, ONE)]]))
        self.assertEqual(game, COIN)
        values = [ONE, HALF, (3, 1)]
        ratio.total(values)
        ratio.largest(values)
        ratio.is_ratio(values)
        self.assertEqual(values, [ONE, HALF, (3, 1)])
        knots = list(KNOTS)
        curve = Curve(knots)
        self.assertEqual(knots, list(KNOTS))
        moves[0].clear()
        rewards.clear()
        knots.clear()
        self.assertEqual((game, curve.knots), (COIN, KNOTS))

    def test_curves_stay_as_they_are(self):
        curve, other = Curve(KNOTS), profiles.game_curve((FLAT, 0), HALF)
        kept = other.knots
        for found in (curve * other, curve | other, curve & other, other * curve):
            self.assertTrue(is_frozen(found.knots))
            self.assertIsNot(found, curve)
        curve.lack(other)
        curve.never_below(other)
        profiles.standard_game(curve, HALF)
        self.assertEqual((curve.knots, other.knots), (KNOTS, kept))
        self.assertEqual(list(curve), list(KNOTS))

    def test_from_a_text_to_the_ledger(self):
        text = "discount 1/2\ngame coin\nstate 1\nto 0 1/2\nto 1 1/2\nstate 0\nto 1 1\nplace coin 0\nplace coin 0\n"
        book = reading.read_book(text)
        company = reading.company_of(book)
        self.assertEqual(company, PAIR)
        self.assertEqual(companies.best_gain(company, book[0]), (16, 9))
        self.assertEqual(copies.copies_gain(company[0], 2, book[0]), (16, 9))
        self.assertEqual(visits.visits_gain(company, visits.order_visits(company, ORDER, book[0])), (16, 9))
        one = house.House(book[0])
        one.perform([("enter",) + place for place in company])
        self.assertEqual((one.best_gain(), one.advice()), ((16, 9), 1))
        one.play(1, 1)
        self.assertEqual(one.advice(), 2)
        self.assertEqual(one.ledger(), ((0, 1), (16, 9), ONE, (0, 1), (-1, 9), (2, 3)))


if __name__ == "__main__":
    unittest.main()
