import unittest
from fractions import Fraction

from anycompany.building import steady, throw
from anycompany.companies import best_gain
from anycompany.copies import copies_gain, enough_copies, shortage
from anycompany.indices import indices
from anycompany.profiles import game_curve
from anycompany.tables import value_table
from tests.support import COIN, DISCOUNTS, HAIR, HALF, frac, games, is_proper, places, random_game, ratio_of, slope_of

ZERO = (0, 1)
GREAT = ((((10 ** 40, 3), (-10 ** 40, 7), (10 ** 40 + 1, 3)), random_game(5, 3)[1]), 0)
SOME = [(COIN, 0), (COIN, 1), (steady((7, 2)), 0), GREAT, (random_game(13, 4), 0), (random_game(17, 5), 2)]
SHORT = [(COIN, 0), GREAT, (throw((5, 1), (((1, 2), (-4, 1)), ((1, 3), (3, 1)), ((1, 6), (10, 1)))), 0)]


def missing(place, count, discount):
    """The shortage, by the pieces of the curve as the document tells its slopes; as a fraction."""
    knots = game_curve(place, discount).knots
    found = Fraction(0)
    for (left, _), (right, _) in zip(knots, knots[1:]):
        found += slope_of(knots, frac(left)) ** count * (frac(right) - frac(left))
    return found


class CopiesGain(unittest.TestCase):
    def test_against_companies(self):
        for place in places():
            for discount in (ZERO, HALF, (9, 10), (10 ** 30 - 1, 10 ** 30)):
                for count in range(1, 5):
                    gain = copies_gain(place, count, discount)
                    self.assertTrue(is_proper(gain))
                    self.assertEqual(gain, best_gain((place,) * count, discount))

    def test_against_value_tables(self):
        for game in (COIN, steady((7, 2)), random_game(15, 3)):
            states = range(len(game[0]))
            for discount in (ZERO, HALF, (9, 10)):
                for count in range(1, 5):
                    table = value_table((game,) * count, discount)
                    # The joint state in which all games stand in the same state.
                    step = sum(len(states) ** k for k in range(count))
                    for state in states:
                        self.assertEqual(copies_gain((game, state), count, discount), table[state * step])

    def test_many_copies(self):
        for place in SOME:
            index = {discount: frac(indices(place[0], discount)[place[1]]) for discount in DISCOUNTS}
            for discount in DISCOUNTS[:4]:
                for count in (5, 9, 10, 31, 60, 299, 300, 301, 350):
                    gain = copies_gain(place, count, discount)
                    self.assertTrue(is_proper(gain))
                    self.assertEqual(frac(gain), index[discount] - missing(place, count, discount))
            self.assertEqual(frac(copies_gain(place, 60, DISCOUNTS[4])),
                             index[DISCOUNTS[4]] - missing(place, 60, DISCOUNTS[4]))

    def test_told(self):
        # The curve of the coin has the knots (0, 4/3) and (2, 2), so one slope of 1/3 over a width of 2.
        for count in (1, 2, 3, 300):
            self.assertEqual(frac(copies_gain((COIN, 0), count, HALF)), 2 - 2 * Fraction(1, 3) ** count)
        self.assertEqual(copies_gain((COIN, 0), 2, HALF), (16, 9))
        self.assertEqual(copies_gain((COIN, 1), 7, HALF), ZERO)

    def test_discount_zero(self):
        for game in games():
            for state, reward in enumerate(game[0]):
                self.assertEqual(copies_gain((game, state), 1, ZERO), reward)
                self.assertEqual(copies_gain((game, state), 300, ZERO), reward)
                self.assertEqual(shortage((game, state), 3, ZERO), ZERO)


class Shortage(unittest.TestCase):
    def test_index_minus_gain(self):
        for place in places():
            game, state = place
            for discount in (ZERO, (1, 3), (9, 10)):
                index = indices(game, discount)[state]
                before = None
                for count in list(range(1, 12)) + [59, 60, 300]:
                    found = shortage(place, count, discount)
                    self.assertTrue(is_proper(found))
                    self.assertEqual(frac(found), frac(index) - frac(copies_gain(place, count, discount)))
                    self.assertGreaterEqual(frac(found), 0)
                    self.assertTrue(before is None or frac(found) <= before)
                    before = frac(found)

    def test_told(self):
        self.assertEqual(shortage((COIN, 0), 1, HALF), (2, 3))
        self.assertEqual(shortage((COIN, 0), 4, HALF), (2, 81))
        self.assertEqual(shortage((steady((-3, 7)), 0), 4, HALF), ZERO)


class EnoughCopies(unittest.TestCase):
    def test_bounds_at_and_beside_a_shortage(self):
        for place in SHORT:
            for discount in (HALF, (9, 10)):
                for count in (1, 2, 3, 4, 5, 7, 8, 9, 16, 17, 40, 64, 65, 127, 128, 129, 299, 300):
                    here = frac(shortage(place, count, discount))
                    self.assertEqual(enough_copies(place, ratio_of(here), discount), count)
                    self.assertEqual(enough_copies(place, ratio_of(here - here * frac(HAIR)), discount), count + 1)
                    self.assertEqual(enough_copies(place, ratio_of(here + here * frac(HAIR)), discount), count)

    def test_bounds_between(self):
        for place in SHORT:
            for discount in ((1, 3), (9, 10)):
                rows = [frac(shortage(place, count, discount)) for count in range(1, 40)]
                for count in range(1, 39):
                    bound = ratio_of((rows[count - 1] + rows[count]) / 2)
                    self.assertEqual(enough_copies(place, bound, discount), count + 1)

    def test_bounds_above_the_shortage_of_one_copy(self):
        for place in places():
            for discount in (HALF, (9, 10)):
                bound = ratio_of(frac(shortage(place, 1, discount)) + frac(HAIR))
                self.assertEqual(enough_copies(place, bound, discount), 1)
                self.assertEqual(enough_copies(place, (10 ** 60, 1), discount), 1)

    def test_places_without_a_shortage(self):
        for place in ((COIN, 1), (steady((7, 2)), 0), (steady((-10 ** 40, 1)), 0)):
            for bound in (HAIR, (1, 10 ** 300), (1, 1)):
                self.assertEqual(enough_copies(place, bound, HALF), 1)
        for place in places():
            self.assertEqual(enough_copies(place, HAIR, ZERO), 1)

    def test_least_count(self):
        for place in SOME:
            for discount in (HALF, (9, 10)):
                for bound in ((1, 1), (1, 100), (3, 10 ** 7)):
                    found = enough_copies(place, bound, discount)
                    self.assertIs(type(found), int)
                    self.assertLessEqual(frac(shortage(place, found, discount)), frac(bound))
                    if found > 1:
                        self.assertGreater(frac(shortage(place, found - 1, discount)), frac(bound))


if __name__ == "__main__":
    unittest.main()
