import random
import unittest
from itertools import product

from anycompany.building import steady
from anycompany.companies import best_step, step_cost
from anycompany.stationary import choice_costs, choice_losses, choice_values, improved, settled
from anycompany.tables import joint_states, value_table
from tests.support import COIN, HALF, frac, games, is_frozen, is_proper, random_game, ring

SOME = ((0, 1), HALF, (9, 10), (10 ** 30 - 1, 10 ** 30))
TOLD = games()


def groups():
    """Tuples of one to three games, the same game twice and great rewards among them."""
    found = [(COIN,), (TOLD[5],), (COIN, COIN), (COIN, steady((1, 2))), (ring(3), COIN), (TOLD[8], TOLD[5])]
    found += [(steady((2, 1)), steady((2, 1))), (TOLD[3], TOLD[4]), (COIN, ring(2), COIN)]
    return found + [(TOLD[7], TOLD[8], steady((1, 3))), (random_game(81, 3), random_game(82, 3), random_game(83, 2))]


def choices_for(told):
    """All tables of choices where there are few of them, otherwise some."""
    size = len(joint_states(told))
    if len(told) ** size <= 64:
        return list(product(range(len(told)), repeat=size))
    rng = random.Random(size)
    found = [(position,) * size for position in range(len(told))]
    return found + [tuple(rng.randrange(len(told)) for _ in range(size)) for _ in range(6)]


def cases():
    for told in groups():
        for discount in SOME:
            for choices in choices_for(told):
                yield told, choices, discount


def after(told, states, position, amounts):
    """The expected amount after the move; amounts is a dict by joint state."""
    return sum(frac(chance) * frac(amounts[states[:position] + (target,) + states[position + 1:]])
               for target, chance in told[position][1][states[position]])


def plays(told, states, amounts, discount):
    """What playing each position gains when the amounts follow."""
    return [frac(game[0][states[position]]) + frac(discount) * after(told, states, position, amounts)
            for position, game in enumerate(told)]


class StationaryTest(unittest.TestCase):
    def check_ratios(self, told, found):
        self.assertTrue(is_frozen(found))
        self.assertTrue(all(is_proper(value) for value in found))
        self.assertEqual(len(found), len(joint_states(told)))

    def check_choices(self, told, found):
        self.assertTrue(is_frozen(found))
        self.assertEqual(len(found), len(joint_states(told)))
        self.assertTrue(all(position in range(len(told)) for position in found))


class ChoiceValues(StationaryTest):
    def check_values(self, told, choices, discount):
        values = choice_values(told, choices, discount)
        self.check_ratios(told, values)
        amounts = dict(zip(joint_states(told), values))
        for (states, value), position in zip(amounts.items(), choices):
            self.assertEqual(frac(value), plays(told, states, amounts, discount)[position])

    def test_equations(self):
        for told, choices, discount in cases():
            self.check_values(told, choices, discount)

    def test_told(self):
        half = steady((1, 2))
        self.assertEqual(choice_values((COIN,), (0, 0), HALF), ((4, 3), (0, 1)))
        self.assertEqual(choice_values((COIN, half), (1, 1), HALF), ((1, 1), (1, 1)))
        self.assertEqual(choice_values((COIN, half), (0, 1), HALF), ((5, 3), (1, 1)))
        self.assertEqual(choice_values((COIN, half), (0, 0), HALF), ((4, 3), (0, 1)))
        self.assertEqual(choice_values((COIN, half), (1, 0), HALF), ((1, 1), (0, 1)))
        self.assertEqual(choice_values((COIN, half), (0, 0), (0, 1)), ((1, 1), (0, 1)))

    def test_300_joint_states(self):
        for told in ((random_game(1, 24), random_game(2, 12)), (random_game(3, 6), random_game(4, 7), random_game(5, 7))):
            rng = random.Random(9)
            choices = tuple(rng.randrange(len(told)) for _ in joint_states(told))
            self.check_values(told, choices, (9, 10))


class Improved(StationaryTest):
    def test_one_improvement(self):
        for told, choices, discount in cases():
            found = improved(told, choices, discount)
            self.check_choices(told, found)
            amounts = dict(zip(joint_states(told), choice_values(told, choices, discount)))
            for states, old, new in zip(amounts, choices, found):
                gains = plays(told, states, amounts, discount)
                self.assertEqual(new, old if gains[old] == max(gains) else gains.index(max(gains)))

    def test_never_lowers_a_value(self):
        for told, choices, discount in cases():
            before = choice_values(told, choices, discount)
            later = choice_values(told, improved(told, choices, discount), discount)
            self.assertTrue(all(frac(low) <= frac(high) for low, high in zip(before, later)))

    def test_equal_play_values(self):
        same = (steady((2, 1)),) * 3
        for position in range(3):
            self.assertEqual(improved(same, (position,), HALF), (position,))
        self.assertEqual(improved((steady((1, 1)),) + same, (0,), HALF), (1,))
        self.assertEqual(improved((steady((1, 1)),) + same, (3,), HALF), (3,))

    def test_told(self):
        half = steady((1, 2))
        self.assertEqual(improved((COIN, half), (1, 0), HALF), (0, 1))
        self.assertEqual(improved((COIN, half), (0, 1), HALF), (0, 1))


class Settled(StationaryTest):
    def test_repeated_improvement(self):
        for told, choices, discount in cases():
            found = settled(told, choices, discount)
            self.check_choices(told, found)
            here = choices
            while improved(told, here, discount) != here:
                here = improved(told, here, discount)
            self.assertEqual(found, here)
            self.assertEqual(choice_values(told, found, discount), value_table(told, discount))
            self.assertEqual(settled(told, found, discount), found)

    def test_best_steps_come_back(self):
        for told in groups():
            best = tuple(best_step(tuple(zip(told, states)), HALF) for states in joint_states(told))
            self.assertEqual(settled(told, best, HALF), best)

    def test_300_joint_states(self):
        told = (random_game(1, 24), random_game(2, 12))
        found = settled(told, (0,) * 288, (9, 10))
        self.assertEqual(improved(told, found, (9, 10)), found)
        self.assertEqual(choice_values(told, found, (9, 10)), value_table(told, (9, 10)))


class CostsAndLosses(StationaryTest):
    def test_costs(self):
        for told, choices, discount in cases():
            costs = choice_costs(told, choices, discount)
            self.check_ratios(told, costs)
            best = dict(zip(joint_states(told), value_table(told, discount)))
            for states, position, cost in zip(best, choices, costs):
                self.assertEqual(frac(cost), frac(best[states]) - plays(told, states, best, discount)[position])
                self.assertGreaterEqual(frac(cost), 0)

    def test_costs_of_the_companies(self):
        for told in groups():
            for choices in choices_for(told)[:3]:
                wanted = tuple(step_cost(tuple(zip(told, states)), position, HALF)
                               for states, position in zip(joint_states(told), choices))
                self.assertEqual(choice_costs(told, choices, HALF), wanted)

    def test_losses(self):
        for told, choices, discount in cases():
            losses = choice_losses(told, choices, discount)
            self.check_ratios(told, losses)
            values = choice_values(told, choices, discount)
            for loss, best, value in zip(losses, value_table(told, discount), values):
                self.assertEqual(frac(loss), frac(best) - frac(value))
                self.assertGreaterEqual(frac(loss), 0)
            amounts = dict(zip(joint_states(told), losses))
            costs = choice_costs(told, choices, discount)
            for states, position, cost in zip(amounts, choices, costs):
                later = frac(discount) * after(told, states, position, amounts)
                self.assertEqual(frac(amounts[states]), frac(cost) + later)

    def test_told(self):
        half = steady((1, 2))
        self.assertEqual(choice_costs((COIN, half), (1, 0), HALF), ((1, 3), (1, 2)))
        self.assertEqual(choice_losses((COIN, half), (1, 0), HALF), ((2, 3), (1, 1)))
        self.assertEqual(choice_costs((COIN, half), (0, 1), HALF), ((0, 1), (0, 1)))
        self.assertEqual(choice_losses((COIN, half), (0, 1), HALF), ((0, 1), (0, 1)))


if __name__ == "__main__":
    unittest.main()
