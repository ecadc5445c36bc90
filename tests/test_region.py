import random
import unittest
from fractions import Fraction
from itertools import combinations

from anycompany.leaving import excursion, leave_values
from anycompany.region import broken_set, mixture, rule
from anycompany.visits import choice_visits, order_visits
from tests.support import (
    COIN, DISCOUNTS, HAIR, HALF, frac, is_frozen, is_proper, pairs_told, random_game, ratio_of, ring, small_companies,
    some_orders,
)

ZERO = (0, 1)
SOME = (ZERO, HALF, (9, 10))
COMPANIES = small_companies()
HALF_GAME = (((1, 2),), (((0, (1, 1)),),))


def sets_for(company):
    """All sets of pairs of a small company, and of a larger one some of each size."""
    pairs = pairs_told(company)
    found = [chosen for many in range(len(pairs) + 1) for chosen in combinations(pairs, many)]
    if len(found) > 64:
        found = [found[0], found[-1]] + random.Random(len(pairs)).sample(found, 40)
    return found


def spare(coefficients, side, numbers):
    return sum(frac(coefficient) * number for coefficient, number in zip(coefficients, numbers)) - frac(side)


def is_broken(company, chosen, visits, discount):
    """Whether the set is broken by the visits, as the document tells it."""
    numbers = [frac(visit) for visit in visits]
    if spare(*rule(company, chosen, discount), numbers) < 0:
        return True
    return list(chosen) == pairs_told(company) and sum(numbers) != 1 / (1 - frac(discount))


def blends(company, discount, seed):
    """Visits of one to many orders, each with a weight, as weighted means."""
    rng = random.Random(seed)
    orders = some_orders(company, 7)
    for many in (1, 2, 3, len(orders)):
        chosen = rng.sample(orders, many)
        weights = [rng.randint(1, 9) for _ in chosen]
        rows = [order_visits(company, order, discount) for order in chosen]
        yield blended(rows, [Fraction(weight, sum(weights)) for weight in weights])


def blended(rows, weights):
    """The weighted sum of rows of ratios, as ratios."""
    return tuple(ratio_of(sum(weight * frac(row[k]) for weight, row in zip(weights, rows)))
                 for k in range(len(rows[0])))


def with_added(visits, at, amount):
    return visits[:at] + (ratio_of(frac(visits[at]) + amount),) + visits[at + 1:]


class Rule(unittest.TestCase):
    def test_by_leave_values_and_excursions(self):
        for company in COMPANIES:
            for discount in DISCOUNTS:
                for chosen in sets_for(company):
                    coefficients, side = rule(company, chosen, discount)
                    self.assertTrue(is_frozen((coefficients, side)))
                    self.assertTrue(all(is_proper(value) for value in coefficients + (side,)))
                    wanted = []
                    product = Fraction(1)
                    for position, (game, state) in enumerate(company):
                        rest = tuple(k for k in range(len(game[0])) if (position, k) not in chosen)
                        factors = dict(zip(rest, [frac(pair[1]) for pair in leave_values(game, rest, discount)]))
                        product *= factors.get(state, 1)
                        for k in range(len(game[0])):
                            _, factor = excursion(game, k, rest, discount)
                            wanted.append(0 if k in rest else 1 - frac(factor))
                    self.assertEqual(list(map(frac, coefficients)), wanted)
                    self.assertEqual(frac(side), product)

    def test_no_pairs(self):
        for company in COMPANIES:
            for discount in DISCOUNTS:
                self.assertEqual(rule(company, (), discount), ((ZERO,) * len(pairs_told(company)), ZERO))

    def test_all_pairs(self):
        for company in COMPANIES:
            pairs = tuple(pairs_told(company))
            for discount in DISCOUNTS:
                one = ratio_of(1 - frac(discount))
                self.assertEqual(rule(company, pairs, discount), ((one,) * len(pairs), (1, 1)))

    def test_kept_by_every_order_and_just_so_if_the_rest_comes_first(self):
        for company in COMPANIES:
            pairs = pairs_told(company)
            for chosen in sets_for(company)[:30]:
                for discount in SOME:
                    coefficients, side = rule(company, chosen, discount)
                    for order in some_orders(company, 1):
                        numbers = list(map(frac, order_visits(company, order, discount)))
                        self.assertGreaterEqual(spare(coefficients, side, numbers), 0)
                    later = tuple(pair for pair in pairs if pair not in chosen) + chosen
                    numbers = list(map(frac, order_visits(company, later, discount)))
                    self.assertEqual(spare(coefficients, side, numbers), 0)

    def test_told(self):
        coin = ((COIN, 0),)
        # From state 0 the coin gets to state 1 after t steps with the probability 1/2 to the power t.
        self.assertEqual(rule(coin, ((0, 1),), HALF), ((ZERO, HALF), (1, 3)))
        # An excursion from state 0 leaves its rest, state 1, at once or never.
        self.assertEqual(rule(coin, ((0, 0),), HALF), (((3, 4), ZERO), (1, 1)))
        self.assertEqual(rule(((COIN, 1),), ((0, 0),), HALF), (((3, 4), ZERO), ZERO))
        two = ((COIN, 0), (COIN, 0))
        self.assertEqual(rule(two, ((0, 1), (1, 1)), HALF), ((ZERO, HALF, ZERO, HALF), (1, 9)))
        self.assertEqual(rule(two, ((0, 1), (1, 0)), HALF), ((ZERO, HALF, (3, 4), ZERO), (1, 3)))


class BrokenSet(unittest.TestCase):
    def check_broken(self, company, visits, discount):
        found = broken_set(company, visits, discount)
        self.assertIsNotNone(found)
        self.assertIs(type(found), tuple)
        self.assertTrue(is_frozen(found))
        self.assertEqual(list(found), sorted(set(found)))
        self.assertLessEqual(set(found), set(pairs_told(company)))
        self.assertTrue(is_broken(company, found, visits, discount))

    def test_visits_of_policies(self):
        for company in COMPANIES:
            size = 1
            for game, _ in company:
                size *= len(game[0])
            rng = random.Random(size)
            for discount in SOME:
                for visits in blends(company, discount, 1):
                    self.assertIsNone(broken_set(company, visits, discount))
                choices = tuple(rng.randrange(len(company)) for _ in range(size))
                rows = [choice_visits(company, choices, discount),
                        order_visits(company, some_orders(company, 1)[2], discount)]
                self.assertIsNone(broken_set(company, rows[0], discount))
                self.assertIsNone(broken_set(company, blended(rows, [Fraction(2, 7), Fraction(5, 7)]), discount))

    def test_none_exactly_if_no_set_is_broken(self):
        seen = set()
        for company in COMPANIES[:7]:
            pairs = pairs_told(company)
            sets = [chosen for many in range(len(pairs) + 1) for chosen in combinations(pairs, many)]
            rng = random.Random(len(pairs))
            for visits in blends(company, HALF, 2):
                for step in (frac(HAIR), Fraction(1, 5), Fraction(1)):
                    here, there = rng.randrange(len(pairs)), rng.randrange(len(pairs))
                    changed = with_added(with_added(visits, here, step), there, -step)
                    wanted = any(is_broken(company, chosen, changed, HALF) for chosen in sets)
                    self.assertIs(broken_set(company, changed, HALF) is not None, wanted)
                    seen.add(wanted)
                    if wanted:
                        self.check_broken(company, changed, HALF)
        self.assertEqual(seen, {True, False})

    def test_something_added(self):
        for company in COMPANIES:
            pairs = pairs_told(company)
            for discount in SOME:
                visits = order_visits(company, tuple(pairs), discount)
                for at in range(len(pairs)):
                    for amount in (frac(HAIR), -frac(HAIR), 1, -10 ** 40):
                        self.check_broken(company, with_added(visits, at, amount), discount)

    def test_entries_below_zero(self):
        for company in COMPANIES:
            pairs = pairs_told(company)
            visits = order_visits(company, tuple(pairs), HALF)
            for at in range(len(pairs) - 1):
                # The sum stays as it is.
                changed = with_added(visits, at, -frac(visits[at]) - frac(HAIR))
                changed = with_added(changed, len(pairs) - 1, frac(visits[at]) + frac(HAIR))
                self.check_broken(company, changed, HALF)
        self.check_broken(((COIN, 0),), ((-1, 1), (3, 1)), HALF)

    def test_the_sum_alone(self):
        self.check_broken(((HALF_GAME, 0),), ((2, 1),), (1, 3))
        self.assertEqual(broken_set(((HALF_GAME, 0),), ((2, 1),), (1, 3)), ((0, 0),))
        self.assertIsNone(broken_set(((HALF_GAME, 0),), ((2, 1),), HALF))
        # Every rule is kept, but there is more than all the time.
        two = ((HALF_GAME, 0), (HALF_GAME, 0))
        self.assertEqual(broken_set(two, ((2, 1), (1, 1)), HALF), ((0, 0), (1, 0)))

    def test_told(self):
        coin = ((COIN, 0),)
        self.assertIsNone(broken_set(coin, ((4, 3), (2, 3)), HALF))
        # Only state 1 has too little; state 0 cannot be kept from moving on.
        self.assertEqual(broken_set(coin, ((3, 2), (1, 2)), HALF), ((0, 1),))
        self.assertEqual(broken_set(coin, ((1, 1), (1, 1)), HALF), ((0, 0),))

    def test_discount_zero(self):
        company = ((COIN, 0), (COIN, 1))
        for visits in (((1, 1), ZERO, ZERO, ZERO), (ZERO, ZERO, ZERO, (1, 1)), (HALF, ZERO, ZERO, HALF)):
            self.assertIsNone(broken_set(company, visits, ZERO))
        # Only the current states can be played at all.
        for visits in ((ZERO, (1, 1), ZERO, ZERO), (HALF, ZERO, HALF, ZERO), (ZERO,) * 4):
            self.check_broken(company, visits, ZERO)


class Mixture(unittest.TestCase):
    def check_mixture(self, company, visits, discount):
        pairs = pairs_told(company)
        found = mixture(company, visits, discount)
        self.assertIs(type(found), tuple)
        self.assertTrue(is_frozen(found))
        self.assertTrue(1 <= len(found) <= len(pairs))
        for weight, order in found:
            self.assertTrue(is_proper(weight))
            self.assertGreater(frac(weight), 0)
            self.assertEqual(sorted(order), pairs)
        weights = [frac(weight) for weight, _ in found]
        self.assertEqual(sum(weights), 1)
        rows = [order_visits(company, order, discount) for _, order in found]
        self.assertEqual(blended(rows, weights), visits)
        return found

    def test_weighted_means_of_orders(self):
        longest = 0
        for company in COMPANIES:
            for discount in SOME + ((10 ** 30 - 1, 10 ** 30),):
                for visits in blends(company, discount, 3):
                    longest = max(longest, len(self.check_mixture(company, visits, discount)))
        self.assertGreater(longest, 3)

    def test_visits_of_choices(self):
        for company in COMPANIES:
            size = 1
            for game, _ in company:
                size *= len(game[0])
            rng = random.Random(size)
            for discount in SOME:
                for _ in range(3):
                    choices = tuple(rng.randrange(len(company)) for _ in range(size))
                    self.check_mixture(company, choice_visits(company, choices, discount), discount)

    def test_visits_of_one_order(self):
        for company in COMPANIES:
            for order in some_orders(company, 2):
                for discount in SOME:
                    found = self.check_mixture(company, order_visits(company, order, discount), discount)
                    self.assertEqual(len(found), 1)

    def test_hairs_from_an_order(self):
        for company in COMPANIES:
            orders = some_orders(company, 3)
            rows = [order_visits(company, order, HALF) for order in orders]
            weights = [1 - 4 * frac(HAIR)] + [frac(HAIR)] * 4
            self.check_mixture(company, blended(rows, weights), HALF)

    def test_none_exactly_if_a_set_is_broken(self):
        seen = set()
        for company in COMPANIES:
            pairs = pairs_told(company)
            rng = random.Random(len(pairs))
            for visits in blends(company, HALF, 4):
                for step in (frac(HAIR), Fraction(1, 8), Fraction(0)):
                    here, there = rng.randrange(len(pairs)), rng.randrange(len(pairs))
                    changed = with_added(with_added(visits, here, step), there, -step)
                    broken = broken_set(company, changed, HALF)
                    if broken is None:
                        self.check_mixture(company, changed, HALF)
                    else:
                        self.assertIsNone(mixture(company, changed, HALF))
                    seen.add(broken is None)
                self.assertIsNone(mixture(company, with_added(visits, 0, 1), HALF))
        self.assertEqual(seen, {True, False})

    def test_one_pair(self):
        company = ((HALF_GAME, 0),)
        self.assertEqual(mixture(company, ((2, 1),), HALF), (((1, 1), ((0, 0),)),))
        self.assertEqual(mixture(company, ((1, 1),), ZERO), (((1, 1), ((0, 0),)),))
        for visits in (((1, 1),), (ZERO,), ((-2, 1),)):
            self.assertIsNone(mixture(company, visits, HALF))

    def test_the_same_place_twice(self):
        company = ((COIN, 0), (COIN, 0))
        rows = [order_visits(company, order, HALF)
                for order in (((0, 0), (1, 0), (0, 1), (1, 1)), ((1, 0), (0, 0), (0, 1), (1, 1)))]
        found = self.check_mixture(company, blended(rows, [Fraction(1, 2)] * 2), HALF)
        self.assertEqual(len(found), 2)

    def test_discount_zero(self):
        company = ((COIN, 0), (ring(3), 1), (HALF_GAME, 0))
        visits = ((1, 6), ZERO, ZERO, (1, 3), ZERO, HALF)
        self.assertEqual(len(self.check_mixture(company, visits, ZERO)), 3)

    def test_more_pairs_than_promised(self):
        company = ((random_game(71, 3), 0), (random_game(72, 3), 1), (random_game(73, 3), 2))
        for visits in blends(company, HALF, 5):
            self.check_mixture(company, visits, HALF)


if __name__ == "__main__":
    unittest.main()
