"""What several test files need: sample games, and plain checks by Python's own fractions."""

import random
from fractions import Fraction
from itertools import combinations
from math import gcd

COIN = (((1, 1), (0, 1)), (((0, (1, 2)), (1, (1, 2))), ((1, (1, 1)),)))
HALF = (1, 2)
HAIR = (1, 10 ** 30)
DISCOUNTS = ((0, 1), (1, 3), HALF, (9, 10), (10 ** 30 - 1, 10 ** 30))


def frac(ratio):
    return Fraction(*ratio)


def ratio_of(number):
    number = Fraction(number)
    return (number.numerator, number.denominator)


def is_proper(value):
    """A ratio, told without the program: a tuple of two plain integers in lowest terms."""
    return (type(value) is tuple and len(value) == 2 and all(type(part) is int for part in value)
            and value[1] >= 1 and gcd(*value) == 1)


def is_frozen(value):
    """Only tuples of tuples and plain integers, nothing that can be changed, no True and False."""
    if type(value) is tuple:
        return all(is_frozen(part) for part in value)
    return type(value) is int


def row_of(rng, size, *, spread=3):
    """A row with some of the states as targets, in ascending order."""
    targets = sorted(rng.sample(range(size), rng.randint(1, min(spread, size))))
    weights = [rng.randint(1, 5) for _ in targets]
    return tuple((target, ratio_of(Fraction(weight, sum(weights)))) for target, weight in zip(targets, weights))


def random_game(seed, size, *, most=6, spread=3):
    """The same game for the same seed; equal rewards occur often."""
    rng = random.Random(seed)
    rewards = tuple(ratio_of(Fraction(rng.randint(-most, most), rng.randint(1, 3))) for _ in range(size))
    return (rewards, tuple(row_of(rng, size, spread=spread) for _ in range(size)))


def ring(size):
    """Each state moves to the next one, the last one to the first one."""
    return (tuple((k, 1) for k in range(size)), tuple((((k + 1) % size, (1, 1)),) for k in range(size)))


def games():
    """Games of all kinds that are small enough to try every set of states."""
    found = [COIN, (((7, 2),), (((0, (1, 1)),),)), ring(4)]
    found.append((((2, 1),) * 4, random_game(3, 4)[1]))
    found.append((((0, 1),) * 3, random_game(4, 3)[1]))
    found.append((((10 ** 40, 3), (-10 ** 40, 7), (10 ** 40 + 1, 3)), random_game(5, 3)[1]))
    found.extend(random_game(10 + seed, 1 + seed % 5) for seed in range(12))
    return found


def sets_of(size):
    """All tuples of states in ascending order without duplicates."""
    return [chosen for many in range(size + 1) for chosen in combinations(range(size), many)]


def mean_after(game, state, amount_of):
    """The expected amount after the move from the state; amount_of tells the amount of a target."""
    return sum((frac(probability) * amount_of(target) for target, probability in game[1][state]), Fraction(0))
