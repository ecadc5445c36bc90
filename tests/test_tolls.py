import unittest
from fractions import Fraction
from itertools import product

from anycompany.building import steady
from anycompany.companies import best_gain, company_curve
from anycompany.comparing import never_worse
from anycompany.indices import indices
from anycompany.profiles import game_curve, standard_game
from anycompany.tolls import fair_toll, needless, with_toll
from tests.support import (
    COIN, HAIR, HALF, companies, frac, is_frozen, is_proper, places, random_game, ratio_of, ring, value_of,
)

SOME = ((0, 1), HALF, (9, 10), (10 ** 30 - 1, 10 ** 30))
ZERO = (0, 1)
PLACES = places()
PAIRS = list(product(PLACES, repeat=2))


class WithToll(unittest.TestCase):
    def test_each_play_costs_the_toll(self):
        for place in PLACES:
            game, state = place
            for toll in (ZERO, (1, 1), (-7, 3), HAIR, (10 ** 40, 3)):
                found = with_toll(place, toll)
                self.assertTrue(is_frozen(found))
                rewards = tuple(ratio_of(frac(reward) - frac(toll)) for reward in game[0])
                self.assertEqual(found, ((rewards, game[1]), state))
            self.assertEqual(with_toll(place, ZERO), place)

    def test_told(self):
        self.assertEqual(with_toll((COIN, 1), (1, 2)), (((HALF, (-1, 2)), COIN[1]), 1))
        self.assertEqual(with_toll((COIN, 1), (-1, 2)), ((((3, 2), HALF), COIN[1]), 1))


def amount_with_excess(knots, excess):
    """The only amount with this excess, found between the knots by trying."""
    points = [(frac(amount), frac(value)) for amount, value in knots]
    if excess >= points[0][1] - points[0][0]:
        return points[0][1] - excess
    for (left, low), (right, high) in zip(points, points[1:]):
        if low - left >= excess >= high - right:
            slope = (high - low) / (right - left)
            # low + slope * (amount - left) - amount is the excess.
            return (low - slope * left - excess) / (1 - slope)
    raise AssertionError("no amount has the excess")


class FairToll(unittest.TestCase):
    def test_the_greatest_toll(self):
        for discount in SOME:
            for first, second in PAIRS:
                toll = fair_toll(first, second, discount)
                self.assertTrue(is_proper(toll))
                self.assertIs(never_worse(with_toll(first, toll), second, discount), True)
                for step in (frac(HAIR), frac(HAIR) ** 3, 1):
                    more = ratio_of(frac(toll) + step)
                    self.assertIs(never_worse(with_toll(first, more), second, discount), False)

    def test_by_the_excesses(self):
        for discount in SOME:
            for first, second in PAIRS:
                one, two = game_curve(first, discount).knots, game_curve(second, discount).knots
                excesses = [frac(value) - frac(amount) for amount, value in one + two]
                for knots in (one, two):
                    for excess in excesses:
                        amount = amount_with_excess(knots, excess)
                        self.assertEqual(value_of(knots, amount) - amount, excess)
                least = min(amount_with_excess(one, excess) - amount_with_excess(two, excess) for excess in excesses)
                self.assertEqual(frac(fair_toll(first, second, discount)), (1 - frac(discount)) * least)

    def test_against_itself(self):
        for discount in SOME:
            for place in PLACES:
                self.assertEqual(fair_toll(place, place, discount), ZERO)
                self.assertEqual(fair_toll((standard_game(game_curve(place, discount), discount), 0), place, discount),
                                 ZERO)

    def test_a_toll_on_the_second_place(self):
        for discount in SOME:
            for place in PLACES:
                for toll in ((1, 3), (-5, 1), HAIR):
                    self.assertEqual(fair_toll(place, with_toll(place, toll), discount), toll)
                    self.assertEqual(fair_toll(with_toll(place, toll), place, discount), ratio_of(-frac(toll)))

    def test_steady_games(self):
        for low, high in product((ZERO, (1, 2), (-7, 3), (10 ** 40, 3)), repeat=2):
            for discount in SOME:
                self.assertEqual(fair_toll((steady(low), 0), (steady(high), 0), discount),
                                 ratio_of(frac(low) - frac(high)))

    def test_told(self):
        half = (steady((1, 2)), 0)
        # The excess 4/3 of the coin is at the amount 0, of the steady game at -1/3; the indexes are 2 and 1.
        self.assertEqual(fair_toll((COIN, 0), half, HALF), (1, 6))
        self.assertEqual(fair_toll(half, (COIN, 0), HALF), (-1, 2))


class Needless(unittest.TestCase):
    def check_position(self, company, position, discount):
        others = company[:position] + company[position + 1:]
        found = needless(company, position, discount)
        self.assertIs(type(found), bool)
        # Without a stop amount a game that is ever of use raises the best gain.
        self.assertIs(found, best_gain(company, discount) == best_gain(others, discount))
        if found:
            for rest in ((), ((COIN, 0),), ((ring(3), 1), (steady((3, 1)), 0))):
                for stop in (None, ZERO, (1, 1), (7, 2), (-10 ** 40, 1), (10 ** 40, 1)):
                    self.assertEqual(best_gain(company + rest, discount, stop=stop),
                                     best_gain(others + rest, discount, stop=stop))
        return found

    def test_every_position(self):
        seen = set()
        for company in companies():
            for discount in SOME:
                for position in range(len(company)):
                    if len(company) > 1:
                        seen.add(self.check_position(company, position, discount))
        for first, second in PAIRS:
            seen.add(self.check_position((first, second), 0, HALF))
            seen.add(self.check_position((first, second), 1, (9, 10)))
        self.assertEqual(seen, {True, False})

    def test_index_and_first_knot(self):
        for first, second in PAIRS:
            game, state = first
            index = indices(game, HALF)[state]
            company = (second, first, (COIN, 1))
            knots = company_curve((second, (COIN, 1)), HALF).knots
            self.assertIs(needless(company, 1, HALF), frac(index) <= frac(knots[0][0]))

    def test_equal_indexes(self):
        two = (steady((1, 1)), 0)
        for position in (0, 1):
            self.assertIs(needless((two, two), position, HALF), True)
        # The coin has the index of the steady game, which never falls below it.
        self.assertIs(needless(((COIN, 0), two), 0, HALF), True)
        self.assertIs(needless(((COIN, 0), two), 1, HALF), False)
        self.assertIs(needless((two, (COIN, 0)), 0, HALF), False)
        hair = (steady(ratio_of(1 - frac(HAIR))), 0)
        self.assertIs(needless(((COIN, 0), hair), 0, HALF), False)

    def test_the_same_place_twice(self):
        for position in (0, 1):
            self.assertIs(needless(((COIN, 0), (COIN, 0)), position, HALF), False)
            self.assertIs(needless(((COIN, 1), (COIN, 1)), position, HALF), True)

    def test_discount_zero(self):
        for rewards in product(range(3), repeat=3):
            company = tuple((steady((reward, 1)), 0) for reward in rewards)
            for position, reward in enumerate(rewards):
                others = rewards[:position] + rewards[position + 1:]
                self.assertIs(needless(company, position, ZERO), reward <= max(others))
        self.assertIs(needless(((COIN, 0), (random_game(5, 3), 0)), 0, ZERO),
                      frac(random_game(5, 3)[0][0]) >= Fraction(1))


if __name__ == "__main__":
    unittest.main()
