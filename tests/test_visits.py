import random
import unittest
from fractions import Fraction
from itertools import permutations, product

from anycompany.companies import best_gain
from anycompany.indices import indices
from anycompany.stationary import choice_values, settled
from anycompany.tables import joint_states
from anycompany.visits import choice_visits, order_visits, pairs_of, visits_gain
from tests.support import (
    COIN, DISCOUNTS, HALF, frac, is_frozen, is_proper, pairs_told, random_game, ratio_of, small_companies, some_orders,
)

ZERO = (0, 1)
SOME = (ZERO, (1, 3), (9, 10))
COMPANIES = small_companies()


def games_of(company):
    return tuple(game for game, _ in company)


def states_of(company):
    return tuple(state for _, state in company)


def choices_for(company, many):
    """Some tables of choices, the same ones each time: always one position, and any."""
    size = len(joint_states(games_of(company)))
    rng = random.Random(size)
    fixed = [(position,) * size for position in range(len(company))]
    return fixed + [tuple(rng.randrange(len(company)) for _ in range(size)) for _ in range(many)]


def paying_one(company, pair):
    """The games of the company where only this pair pays, namely one."""
    paid = []
    for position, (game, _) in enumerate(company):
        rewards = tuple((int((position, state) == pair), 1) for state in range(len(game[0])))
        paid.append((rewards, game[1]))
    return tuple(paid)


def tracked(company, position_of, discount, steps):
    """The visits of the first steps, by following the chances of all joint states; position_of tells what is played."""
    chances = {states_of(company): Fraction(1)}
    visits = {pair: Fraction(0) for pair in pairs_told(company)}
    for step in range(steps):
        after = {}
        for states, chance in chances.items():
            position = position_of(states)
            visits[(position, states[position])] += frac(discount) ** step * chance
            for target, probability in company[position][0][1][states[position]]:
                moved = states[:position] + (target,) + states[position + 1:]
                after[moved] = after.get(moved, 0) + chance * frac(probability)
        chances = after
    return [visits[pair] for pair in pairs_told(company)]


class PairsOf(unittest.TestCase):
    def test_all_pairs_in_ascending_order(self):
        for company in COMPANIES:
            pairs = pairs_of(company)
            self.assertTrue(is_frozen(pairs))
            self.assertEqual(list(pairs), pairs_told(company))
            self.assertEqual(list(pairs), sorted(set(pairs)))

    def test_told(self):
        self.assertEqual(pairs_of(((COIN, 1),)), ((0, 0), (0, 1)))
        self.assertEqual(pairs_of(((COIN, 0), (COIN, 0))), ((0, 0), (0, 1), (1, 0), (1, 1)))


class ChoiceVisits(unittest.TestCase):
    def check_form(self, company, visits, discount):
        self.assertTrue(is_frozen(visits))
        self.assertEqual(len(visits), len(pairs_told(company)))
        self.assertTrue(all(is_proper(visit) and frac(visit) >= 0 for visit in visits))
        self.assertEqual(sum(frac(visit) for visit in visits), 1 / (1 - frac(discount)))

    def test_sum_and_signs(self):
        for company in COMPANIES:
            for discount in DISCOUNTS:
                for choices in choices_for(company, 2):
                    self.check_form(company, choice_visits(company, choices, discount), discount)

    def test_the_gain_when_one_pair_pays(self):
        for company in COMPANIES:
            start = joint_states(games_of(company)).index(states_of(company))
            for discount in SOME:
                for choices in choices_for(company, 1):
                    visits = choice_visits(company, choices, discount)
                    for pair, visit in zip(pairs_told(company), visits):
                        self.assertEqual(visit, choice_values(paying_one(company, pair), choices, discount)[start])

    def test_the_gain_of_the_choices(self):
        for company in COMPANIES:
            start = joint_states(games_of(company)).index(states_of(company))
            for discount in SOME:
                for choices in choices_for(company, 2):
                    visits = choice_visits(company, choices, discount)
                    self.assertEqual(visits_gain(company, visits),
                                     choice_values(games_of(company), choices, discount)[start])

    def test_the_first_steps(self):
        for company in COMPANIES:
            found = joint_states(games_of(company))
            for discount in (ZERO, (1, 7), HALF):
                for choices in choices_for(company, 1):
                    visits = choice_visits(company, choices, discount)
                    first = tracked(company, lambda states: choices[found.index(states)], discount, 12)
                    rest = frac(discount) ** 12 / (1 - frac(discount))
                    for visit, early in zip(visits, first):
                        self.assertTrue(early <= frac(visit) <= early + rest)

    def test_best_choices(self):
        for company in COMPANIES:
            size = len(joint_states(games_of(company)))
            best = settled(games_of(company), (0,) * size, HALF)
            self.assertEqual(visits_gain(company, choice_visits(company, best, HALF)), best_gain(company, HALF))

    def test_discount_zero(self):
        for company in COMPANIES:
            found = joint_states(games_of(company))
            for choices in choices_for(company, 2):
                position = choices[found.index(states_of(company))]
                played = (position, company[position][1])
                self.assertEqual(choice_visits(company, choices, ZERO),
                                 tuple((int(pair == played), 1) for pair in pairs_told(company)))

    def test_told(self):
        # The coin is in state 0 at step t with the probability 1/2 to the power t.
        self.assertEqual(choice_visits(((COIN, 0),), (0, 0), HALF), ((4, 3), (2, 3)))
        self.assertEqual(choice_visits(((COIN, 1),), (0, 0), HALF), (ZERO, (2, 1)))
        # Both games once: the first one in state 0, then the second one in state 0 until it moves, then the first.
        choices = (0, 1, 1, 0)
        self.assertEqual(choice_visits(((COIN, 1), (COIN, 0)), choices, HALF), (ZERO, (2, 3), (4, 3), ZERO))

    def test_three_positions(self):
        company = ((COIN, 0),) * 3
        found = joint_states(games_of(company))
        choices = tuple(states.index(0) if 0 in states else 2 for states in found)
        # Each coin in turn leaves state 0 after t more plays with the probability 1/2 to the power t.
        factor = Fraction(1, 3)
        first = [Fraction(4, 3) * factor ** k for k in range(3)]
        wanted = (first[0], 0, first[1], 0, first[2], 2 * factor ** 3)
        self.assertEqual(choice_visits(company, choices, HALF), tuple(map(ratio_of, wanted)))


def position_by(order):
    return lambda states: min(range(len(states)), key=lambda position: order.index((position, states[position])))


class OrderVisits(unittest.TestCase):
    def test_the_table_of_choices_of_the_order(self):
        for company in COMPANIES:
            found = joint_states(games_of(company))
            for order in some_orders(company, 3):
                choices = tuple(position_by(order)(states) for states in found)
                for discount in SOME:
                    visits = order_visits(company, order, discount)
                    self.assertTrue(is_frozen(visits))
                    self.assertEqual(visits, choice_visits(company, choices, discount))

    def test_the_first_steps(self):
        for company in COMPANIES:
            for order in some_orders(company, 1):
                visits = order_visits(company, order, HALF)
                first = tracked(company, position_by(order), HALF, 10)
                for visit, early in zip(visits, first):
                    self.assertTrue(early <= frac(visit) <= early + Fraction(2, 2 ** 10))

    def test_the_order_by_index_gains_the_best(self):
        for company in COMPANIES:
            for discount in SOME:
                amounts = {(position, state): frac(index) for position, (game, _) in enumerate(company)
                           for state, index in enumerate(indices(game, discount))}
                order = tuple(sorted(pairs_told(company), key=lambda pair: (-amounts[pair], pair)))
                best = best_gain(company, discount)
                self.assertEqual(visits_gain(company, order_visits(company, order, discount)), best)
                for other in some_orders(company, 4):
                    gain = visits_gain(company, order_visits(company, other, discount))
                    self.assertLessEqual(frac(gain), frac(best))
                for choices in choices_for(company, 2):
                    gain = visits_gain(company, choice_visits(company, choices, discount))
                    self.assertLessEqual(frac(gain), frac(best))

    def test_all_orders(self):
        company = ((COIN, 0), (random_game(3, 2), 1))
        gains = [frac(visits_gain(company, order_visits(company, order, HALF)))
                 for order in permutations(pairs_told(company))]
        self.assertEqual(len(gains), 24)
        self.assertEqual(max(gains), frac(best_gain(company, HALF)))
        self.assertLess(min(gains), max(gains))

    def test_one_position(self):
        for order in permutations(pairs_told(((COIN, 0),))):
            self.assertEqual(order_visits(((COIN, 0),), order, HALF), ((4, 3), (2, 3)))

    def test_told(self):
        company = ((COIN, 0), (COIN, 0))
        self.assertEqual(order_visits(company, ((0, 0), (1, 0), (0, 1), (1, 1)), HALF),
                         ((4, 3), (2, 9), (4, 9), ZERO))
        self.assertEqual(order_visits(company, ((1, 0), (0, 0), (1, 1), (0, 1)), HALF),
                         ((4, 9), ZERO, (4, 3), (2, 9)))
        self.assertEqual(order_visits(company, ((0, 1), (0, 0), (1, 1), (1, 0)), HALF),
                         ((4, 3), (2, 3), ZERO, ZERO))

    def test_forty_joint_states(self):
        company = ((random_game(61, 5), 0), (random_game(62, 4), 1), (COIN, 0))
        for discount in DISCOUNTS:
            visits = order_visits(company, some_orders(company, 1)[2], discount)
            self.assertEqual(sum(frac(visit) for visit in visits), 1 / (1 - frac(discount)))


class VisitsGain(unittest.TestCase):
    def test_any_ratios(self):
        for company in COMPANIES:
            rng = random.Random(len(company))
            rewards = [frac(reward) for game, _ in company for reward in game[0]]
            for _ in range(5):
                numbers = [Fraction(rng.randint(-9, 9), rng.randint(1, 5)) for _ in rewards]
                gain = visits_gain(company, tuple(map(ratio_of, numbers)))
                self.assertTrue(is_proper(gain))
                self.assertEqual(frac(gain), sum(number * reward for number, reward in zip(numbers, rewards)))

    def test_told(self):
        company = ((COIN, 0), (COIN, 1))
        for numbers in product((ZERO, (-1, 2), (10 ** 40, 3)), repeat=4):
            self.assertEqual(frac(visits_gain(company, numbers)), frac(numbers[0]) + frac(numbers[2]))


if __name__ == "__main__":
    unittest.main()
