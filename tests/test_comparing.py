import unittest
from itertools import product

from anycompany.building import prelude, scaled, steady
from anycompany.companies import best_gain, company_curve
from anycompany.comparing import (
    alike, distance, greatest_loss, joined, met, never_worse, parting_reward, relation, shortlist, single,
)
from anycompany.games import make_game, trimmed
from anycompany.profiles import game_curve, standard_game
from tests.support import (
    COIN, HAIR, HALF, amounts_for, companies, frac, games, is_frozen, is_proper, places, ring, value_of,
)

SOME = ((0, 1), HALF, (9, 10), (10 ** 30 - 1, 10 ** 30))
ZERO = (0, 1)
LOW = (steady((1, 2)), 0)
PLACES = places()
PAIRS = list(product(PLACES, repeat=2))


def cases():
    """Each pair of places with each discount, and what the second curve has more at each amount that matters."""
    for discount in SOME:
        rows = {place: game_curve(place, discount).knots for place in PLACES}
        for first, second in PAIRS:
            one, two = rows[first], rows[second]
            gaps = {amount: value_of(two, amount) - value_of(one, amount) for amount in amounts_for(one, two)}
            yield first, second, discount, gaps


class Relations(unittest.TestCase):
    def test_by_the_values_everywhere(self):
        found = set()
        for first, second, discount, gaps in cases():
            below, above = max(gaps.values()) > 0, min(gaps.values()) < 0
            self.assertIs(never_worse(first, second, discount), not below)
            self.assertIs(alike(first, second, discount), not below and not above)
            wanted = {(False, False): "alike", (False, True): "better", (True, False): "worse", (True, True): "apart"}
            self.assertEqual(relation(first, second, discount), wanted[below, above])
            found.add(wanted[below, above])
        self.assertEqual(len(found), 4)

    def test_told(self):
        self.assertIs(never_worse((COIN, 0), LOW, HALF), True)
        self.assertIs(never_worse(LOW, (COIN, 0), HALF), False)
        self.assertEqual(relation((COIN, 0), LOW, HALF), "better")
        self.assertEqual(relation(LOW, (COIN, 0), HALF), "worse")
        self.assertEqual(relation((COIN, 0), (COIN, 1), HALF), "better")
        safe = (steady((3, 4)), 0)
        self.assertEqual(relation((COIN, 0), safe, HALF), "apart")
        self.assertEqual(relation(safe, (COIN, 0), HALF), "apart")
        self.assertIs(never_worse((COIN, 0), safe, HALF), False)
        self.assertIs(never_worse(safe, (COIN, 0), HALF), False)

    def test_a_hair_decides(self):
        other = (scaled(COIN, shift=HAIR), 0)
        self.assertEqual(relation(other, (COIN, 0), HALF), "better")
        self.assertEqual(relation((COIN, 0), other, HALF), "worse")
        self.assertIs(alike((COIN, 0), other, HALF), False)

    def test_different_games_that_are_alike(self):
        for discount in SOME:
            for place in PLACES:
                for other in (place, trimmed(place), (standard_game(game_curve(place, discount), discount), 0)):
                    self.assertIs(alike(place, other, discount), True)
                    self.assertEqual(relation(other, place, discount), "alike")
                    self.assertIs(never_worse(place, other, discount) and never_worse(other, place, discount), True)

    def test_in_companies(self):
        others = ((), ((COIN, 0),), (LOW, (ring(3), 1)))
        for first, second in PAIRS[::5]:
            better = never_worse(first, second, HALF)
            loss, amount = greatest_loss(first, second, HALF)
            for rest in others:
                for stop in (None, ZERO, (1, 1), (2, 1), (7, 2)):
                    gap = frac(best_gain((second,) + rest, HALF, stop=stop)) - frac(
                        best_gain((first,) + rest, HALF, stop=stop))
                    self.assertLessEqual(gap, frac(loss))
                    if better:
                        self.assertLessEqual(gap, 0)
            if amount is not None:
                self.assertEqual(frac(best_gain((second,), HALF, stop=amount)) - frac(
                    best_gain((first,), HALF, stop=amount)), frac(loss))


class Shortlist(unittest.TestCase):
    def check_list(self, told, discount):
        found = shortlist(told, discount)
        self.assertIs(type(found), tuple)
        wanted = []
        for position, place in enumerate(told):
            relations = [relation(other, place, discount) for other in told]
            if "better" not in relations and "alike" not in relations[:position]:
                wanted.append(position)
        self.assertEqual(found, tuple(wanted))

    def test_by_relations(self):
        for discount in SOME:
            self.check_list(tuple(PLACES), discount)
            self.check_list(tuple(reversed(PLACES)), discount)
            self.check_list(tuple(PLACES[::3] + PLACES[::2]), discount)

    def test_told(self):
        self.assertEqual(shortlist((), HALF), ())
        self.assertEqual(shortlist(((COIN, 1),), HALF), (0,))
        self.assertEqual(shortlist(((COIN, 0), (COIN, 0)), HALF), (0,))
        self.assertEqual(shortlist((LOW, (COIN, 0), LOW), HALF), (1,))
        self.assertEqual(shortlist(((COIN, 0), LOW, (COIN, 1)), HALF), (0,))
        safe = (steady((3, 4)), 0)
        self.assertEqual(shortlist((safe, (COIN, 0), safe, LOW, (COIN, 0)), HALF), (0, 1))

    def test_some_place_of_it_gains_most(self):
        told = tuple(PLACES)
        chosen = shortlist(told, HALF)
        for company in companies():
            for stop in (None, ZERO, (1, 1), (3, 1), (100, 1)):
                gains = [frac(best_gain(company + (place,), HALF, stop=stop)) for place in told]
                self.assertEqual(max(gains[position] for position in chosen), max(gains))


class Losses(unittest.TestCase):
    def test_examples_of_the_document(self):
        self.assertEqual(greatest_loss(LOW, (COIN, 0), HALF), ((2, 3), (1, 1)))
        self.assertEqual(parting_reward(LOW, (COIN, 0), HALF), (1, 2))

    def test_greatest_loss_and_parting_reward(self):
        for first, second, discount, gaps in cases():
            loss, amount = greatest_loss(first, second, discount)
            self.assertTrue(is_proper(loss))
            self.assertEqual(frac(loss), max(gaps.values()))
            parting = parting_reward(first, second, discount)
            if loss == ZERO:
                self.assertIsNone(amount)
                self.assertIsNone(parting)
            else:
                knots = game_curve(first, discount).knots + game_curve(second, discount).knots
                at = [frac(knot[0]) for knot in knots if gaps[frac(knot[0])] == frac(loss)]
                self.assertEqual(frac(amount), min(at))
                self.assertEqual(frac(parting), (1 - frac(discount)) * frac(amount))

    def test_the_steady_game_of_the_parting_reward(self):
        for discount in SOME:
            for first, second in PAIRS:
                parting = parting_reward(first, second, discount)
                if parting is not None:
                    beside = (steady(parting), 0)
                    gap = frac(best_gain((second, beside), discount)) - frac(best_gain((first, beside), discount))
                    self.assertEqual(gap, frac(greatest_loss(first, second, discount)[0]))

    def test_distance(self):
        for first, second, discount, gaps in cases():
            told = distance(first, second, discount)
            self.assertTrue(is_proper(told))
            self.assertEqual(frac(told), max(abs(gap) for gap in gaps.values()))
            self.assertEqual(distance(second, first, discount), told)

    def test_distance_over_a_third_place(self):
        apart = {pair: frac(distance(*pair, HALF)) for pair in PAIRS}
        for first, second, third in product(PLACES, repeat=3):
            self.assertLessEqual(apart[first, third], apart[first, second] + apart[second, third])
        for place in PLACES:
            self.assertEqual(apart[place, place], 0)


class JoinAndMeet(unittest.TestCase):
    def check_place(self, place, curve, discount):
        self.assertTrue(is_frozen(place))
        game, state = place
        self.assertEqual(state, 0)
        self.assertEqual(game, standard_game(curve, discount))
        self.assertEqual(make_game(*game), game)
        self.assertEqual(game_curve(place, discount).knots, curve.knots)

    def test_all_pairs(self):
        for discount in SOME:
            for first, second in PAIRS:
                one, two = game_curve(first, discount), game_curve(second, discount)
                self.check_place(joined(first, second, discount), one | two, discount)
                self.check_place(met(first, second, discount), one & two, discount)
                self.assertEqual(joined(first, second, discount), joined(second, first, discount))
                self.assertEqual(met(first, second, discount), met(second, first, discount))

    def test_join_is_never_worse_and_meet_never_better(self):
        for first, second in PAIRS[::3]:
            for place in (first, second):
                self.assertIs(never_worse(joined(first, second, HALF), place, HALF), True)
                self.assertIs(never_worse(place, met(first, second, HALF), HALF), True)

    def test_told(self):
        self.assertEqual(joined(LOW, (COIN, 1), HALF), LOW)
        self.assertEqual(met(LOW, (COIN, 1), HALF), (steady((0, 1)), 0))


class Single(unittest.TestCase):
    def test_has_the_curve_of_the_company(self):
        for company in companies():
            for discount in SOME:
                place = single(company, discount)
                self.assertTrue(is_frozen(place))
                curve = company_curve(company, discount)
                self.assertEqual(place, (standard_game(curve, discount), 0))
                self.assertEqual(game_curve(place, discount).knots, curve.knots)

    def test_stands_in_the_place_of_the_company(self):
        others = ((), ((COIN, 0),), ((ring(3), 2), LOW), ((prelude((1, 1), ((HALF, LOW), (HALF, (COIN, 0)))), 0),))
        for company in companies():
            for discount in (ZERO, HALF, (9, 10)):
                place = single(company, discount)
                for rest in others:
                    for stop in (None, ZERO, (1, 1), (5, 2), (-10 ** 40, 1), (10 ** 40, 1)):
                        gain = best_gain(company + rest, discount, stop=stop)
                        self.assertEqual(best_gain((place,) + rest, discount, stop=stop), gain)
                        self.assertEqual(best_gain(rest + (place,), discount, stop=stop), gain)

    def test_one_place(self):
        self.assertEqual(single(((COIN, 0),), HALF), (standard_game(game_curve((COIN, 0), HALF), HALF), 0))
        for game in games():
            self.assertIs(alike(single(((game, 0),), (9, 10)), (game, 0), (9, 10)), True)


if __name__ == "__main__":
    unittest.main()
