"""What several test files need: sample games, and plain checks by Python's own fractions."""

import random
import unittest
from fractions import Fraction
from itertools import combinations
from math import gcd

from anycompany import errors
from anycompany.errors import AnycompanyError

COIN = (((1, 1), (0, 1)), (((0, (1, 2)), (1, (1, 2))), ((1, (1, 1)),)))
HALF = (1, 2)
HAIR = (1, 10 ** 30)
# Python writes the first of these, and refuses to write the others.
GREAT_NUMBERS = (10 ** 4299, 10 ** 4300, 10 ** 5000, 10 ** 20000 + 7, -10 ** 4300, -10 ** 5000)
DISCOUNTS = ((0, 1), (1, 3), HALF, (9, 10), (10 ** 30 - 1, 10 ** 30))


class ErrorTest(unittest.TestCase):
    def check_error(self, kind, call, **attributes):
        """The call raises this error, with these attributes, and none of the other errors."""
        with self.assertRaises(kind) as caught:
            call()
        raised = caught.exception
        self.assertIs(type(raised), kind)
        self.assertIsInstance(raised, AnycompanyError)
        self.assertIsInstance(raised, ValueError)
        for other in vars(errors).values():
            if isinstance(other, type) and other not in (kind, AnycompanyError):
                self.assertNotIsInstance(raised, other)
        self.assertEqual({name: getattr(raised, name) for name in attributes}, attributes)


def frac(ratio):
    return Fraction(*ratio)


def ratio_of(number):
    number = Fraction(number)
    return (number.numerator, number.denominator)


def is_proper(value):
    """A ratio, told without the program: a tuple of two plain integers in lowest terms."""
    return (type(value) is tuple and len(value) == 2 and all(type(part) is int for part in value)
            and value[1] >= 1 and gcd(*value) == 1)


def is_frozen(value):
    """Only tuples of tuples and plain integers, nothing that can be changed, no True and False."""
    if type(value) is tuple:
        return all(is_frozen(part) for part in value)
    return type(value) is int


def row_of(rng, size, *, spread=3):
    """A row with some of the states as targets, in ascending order."""
    targets = sorted(rng.sample(range(size), rng.randint(1, min(spread, size))))
    weights = [rng.randint(1, 5) for _ in targets]
    return tuple((target, ratio_of(Fraction(weight, sum(weights)))) for target, weight in zip(targets, weights))


def random_game(seed, size, *, most=6, spread=3):
    """The same game for the same seed; equal rewards occur often."""
    rng = random.Random(seed)
    rewards = tuple(ratio_of(Fraction(rng.randint(-most, most), rng.randint(1, 3))) for _ in range(size))
    return (rewards, tuple(row_of(rng, size, spread=spread) for _ in range(size)))


def ring(size):
    """Each state moves to the next one, the last one to the first one."""
    return (tuple((k, 1) for k in range(size)), tuple((((k + 1) % size, (1, 1)),) for k in range(size)))


def games():
    """Games of all kinds that are small enough to try every set of states."""
    found = [COIN, (((7, 2),), (((0, (1, 1)),),)), ring(4)]
    found.append((((2, 1),) * 4, random_game(3, 4)[1]))
    found.append((((0, 1),) * 3, random_game(4, 3)[1]))
    found.append((((10 ** 40, 3), (-10 ** 40, 7), (10 ** 40 + 1, 3)), random_game(5, 3)[1]))
    found.extend(random_game(10 + seed, 1 + seed % 5) for seed in range(12))
    return found


def sets_of(size):
    """All tuples of states in ascending order without duplicates."""
    return [chosen for many in range(size + 1) for chosen in combinations(range(size), many)]


def mean_after(game, state, amount_of):
    """The expected amount after the move from the state; amount_of tells the amount of a target."""
    return sum((frac(probability) * amount_of(target) for target, probability in game[1][state]), Fraction(0))


def knots_by(top, slopes, widths):
    """The knots of a curve with these slopes over pieces of these widths, left to right, up to the top."""
    amount = value = Fraction(top)
    knots = [(ratio_of(amount), ratio_of(value))]
    for slope, width in reversed(list(zip(slopes, widths))):
        amount -= width
        value -= slope * width
        knots.insert(0, (ratio_of(amount), ratio_of(value)))
    return tuple(knots)


def random_knots(seed, pieces, *, greatest=Fraction(1)):
    """The same knots for the same seed; all slopes are less than the greatest one."""
    rng = random.Random(seed)
    slopes = sorted(Fraction(k, 2 * pieces + 7) * greatest for k in rng.sample(range(1, 2 * pieces + 7), pieces))
    widths = [Fraction(rng.randint(1, 6), rng.randint(1, 3)) for _ in slopes]
    return knots_by(Fraction(rng.randint(-4, 8), rng.randint(1, 2)), slopes, widths)


def knot_rows():
    """Knots of curves of all kinds: one knot, crossing each other, touching, far away, equal tops."""
    told = [knots_by(top, (), ()) for top in (-5, 0, Fraction(1, 2), 2, 10 ** 40)]
    told.append((((0, 1), (4, 3)), ((2, 1), (2, 1))))
    told.append(knots_by(2, (Fraction(1, 2),), (6,)))
    told.append(knots_by(2, (Fraction(1, 3), Fraction(1, 2)), (2, 4)))
    told.append(knots_by(3, (Fraction(1, 10), Fraction(9, 10)), (1, 9)))
    told.append(knots_by(10 ** 30, (Fraction(1, 10 ** 30), 1 - Fraction(1, 10 ** 30)), (10 ** 31, Fraction(1, 7))))
    told.extend(random_knots(seed, 1 + seed % 6) for seed in range(10))
    return told


def slope_of(knots, amount):
    """The slope immediately to the right of the amount, as the document tells it; amounts are fractions here."""
    points = [(frac(knot[0]), frac(knot[1])) for knot in knots]
    if amount < points[0][0]:
        return Fraction(0)
    for (left, low), (right, high) in zip(points, points[1:]):
        if left <= amount < right:
            return (high - low) / (right - left)
    return Fraction(1)


def value_of(knots, amount):
    """The value at the amount, as the document tells it; amounts are fractions here."""
    points = [(frac(knot[0]), frac(knot[1])) for knot in knots]
    if amount < points[0][0]:
        return points[0][1]
    for (left, low), (right, high) in zip(points, points[1:]):
        if left <= amount < right:
            return low + (high - low) * (amount - left) / (right - left)
    return amount


def amounts_for(*rows):
    """Amounts at which curves are looked at: each knot, a hair beside it, between the knots, and far away."""
    found = sorted({frac(amount) for knots in rows for amount, _ in knots})
    between = [(low + 2 * high) / 3 for low, high in zip(found, found[1:])]
    beside = [amount + step for amount in found for step in (frac(HAIR), -frac(HAIR), 1, -1)]
    return sorted(set(found + between + beside + [found[0] - 10 ** 45, found[-1] + 10 ** 45]))


def check_knots(test, knots):
    """These are the knots of a curve, as the document tells it, in tuples of proper ratios."""
    test.assertTrue(is_frozen(knots))
    test.assertTrue(knots)
    test.assertTrue(all(is_proper(part) for knot in knots for part in knot))
    points = [(frac(amount), frac(value)) for amount, value in knots]
    test.assertTrue(all(left[0] < right[0] for left, right in zip(points, points[1:])))
    slopes = [(right[1] - left[1]) / (right[0] - left[0]) for left, right in zip(points, points[1:])]
    for low, high in zip([Fraction(0)] + slopes, slopes + [Fraction(1)]):
        test.assertLess(low, high)
    test.assertEqual(points[-1][0], points[-1][1])


def companies():
    """Companies of one to four places: the same place twice, equal indexes, steady games, great rewards."""
    told = games()
    half = (((1, 2),), (((0, (1, 1)),),))
    found = [((COIN, 0),), ((COIN, 1),), ((COIN, 0), (COIN, 0)), ((COIN, 1), (COIN, 0)), ((half, 0), (COIN, 0))]
    found.append(((half, 0), (half, 0), (COIN, 1)))
    found.append(((told[2], 3), (COIN, 0), (told[2], 0)))
    found.append(((told[5], 0), (COIN, 0), (told[5], 2)))
    found.append(((told[3], 1), (told[3], 2), (told[4], 0)))
    found.append(((told[7], 0), (told[8], 1), (told[7], 1), (COIN, 0)))
    found.append(((told[9], 3), (told[10], 0)))
    found.append(((random_game(41, 3), 0), (random_game(42, 3), 1), (random_game(43, 2), 0)))
    return found


def stops_for(indexes):
    """No stop amount, and amounts less than, equal to and greater than the indexes, and far away."""
    amounts = sorted({frac(index) for index in indexes})
    beside = [amount + step for amount in amounts for step in (frac(HAIR), -frac(HAIR), 2, -2)]
    return [None] + [ratio_of(amount) for amount in amounts + beside + [amounts[0] - 10 ** 42, amounts[-1] + 10 ** 42]]


def gain_of(rows, stop):
    """The best gain of places with these rows of knots: right of all tops the slope is one, left of there as told."""
    amounts = sorted({frac(amount) for knots in rows for amount, _ in knots})
    if stop is not None:
        amounts = sorted([amount for amount in amounts if amount > frac(stop)] + [frac(stop)])
    gain = amounts[-1]
    for low, high in zip(amounts, amounts[1:]):
        slope = Fraction(1)
        for knots in rows:
            slope *= slope_of(knots, low)
        gain -= slope * (high - low)
    return gain


def places():
    """Places of all kinds: several with the same curve, better ones, worse ones, and ones apart from each other."""
    half = (((1, 2),), (((0, (1, 1)),),))
    padded = (COIN[0] + ((9, 1),), COIN[1] + (((2, (1, 1)),),))
    found = [(COIN, 0), (COIN, 1), (half, 0), (padded, 0), (((((1, 1),), (((0, (1, 1)),),))), 0)]
    # Throws that pay at once what they are worth, or much later, or with a small chance.
    for low, high, chance in ((0, 4, 2), (0, 8, 4), (-3, 3, 3), (1, 2, 2)):
        row = ((1, (1, chance)), (2, (chance - 1, chance)))
        found.append((((((0, 1), (high, 1), (low, 1))), (row, ((1, (1, 1)),), ((2, (1, 1)),))), 0))
    found.extend((game, 0) for game in games()[4:10])
    return found + [(random_game(91, 4), 2), (random_game(92, 3), 1)]


def small_companies():
    """Companies with at most 8 pairs: one pair, the same place twice, states that are never reached, no chance."""
    half = (((1, 2),), (((0, (1, 1)),),))
    told = games()
    found = [((half, 0),), ((COIN, 0),), ((COIN, 1),), ((COIN, 0), (COIN, 0)), ((half, 0), (COIN, 0), (half, 0))]
    found.append(((ring(3), 1), (ring(2), 0)))
    found.append(((ring(3), 0), (ring(3), 0), (COIN, 1)))
    found.append(((told[5], 0), (COIN, 0), (told[5], 2)))
    found.append(((random_game(51, 4), 1), (random_game(52, 4), 3)))
    found.append(((random_game(53, 8), 2),))
    found.append(((random_game(54, 2), 0),) * 4)
    found.append(((random_game(55, 5), 4), (random_game(56, 3), 0)))
    # The last state of the first game is left at once and never comes back.
    found.append((((((1, 1), (2, 1), (3, 1)), (((1, (1, 1)),), ((0, (1, 3)), (1, (2, 3))), ((0, (1, 1)),))), 2),
                  (COIN, 0), (half, 0)))
    return found


def pairs_told(company):
    """All pairs (position, state), told without the program."""
    return [(position, state) for position, (game, _) in enumerate(company) for state in range(len(game[0]))]


def some_orders(company, many):
    """Some priority orders, the same ones each time: all pairs as they stand, reversed, and shuffled."""
    pairs = pairs_told(company)
    rng = random.Random(len(pairs))
    shuffled = [tuple(rng.sample(pairs, len(pairs))) for _ in range(many)]
    return [tuple(pairs), tuple(reversed(pairs))] + shuffled


def books():
    """Books of all kinds: without games, without places, with the same place several times, with great numbers."""
    told = games()
    half = (((1, 2),), (((0, (1, 1)),),))
    rows = (((0, HAIR), (1, (10 ** 30 - 1, 10 ** 30))), ((0, (1, 1)),))
    great = (((10 ** 59, 10 ** 60 - 1), (1 - 10 ** 60, 1)), rows)
    found = [((0, 1), (), ()), (HALF, (("a", COIN),), ()), (HALF, (("half", half),), (("half", 0),))]
    found.append(((9, 10), (("coin", COIN), ("half", half)), (("half", 0), ("coin", 1), ("coin", 0), ("half", 0))))
    found.append((HAIR, (("a" * 20, half), ("a" * 19, COIN)), (("a" * 19, 1),) * 3))
    found.append(((10 ** 30 - 1, 10 ** 30), (("z", great), ("y", ring(12))), (("y", 11), ("z", 1))))
    names = ["abcdefghijklmnopqrst"[:k + 1] for k in range(len(told))]
    few = [game for game in told if max(len(str(part)) for reward in game[0] for part in reward) < 60]
    found.append(((1, 3), tuple(zip(names, few)), tuple((name, len(game[0]) - 1) for name, game in zip(names, few))))
    return found
