import random
import unittest
from fractions import Fraction
from itertools import permutations

from anycompany.companies import best_gain
from anycompany.games import make_game
from anycompany.indices import indices
from anycompany.jobs import finishing_chance, job_game, job_index, order_by_index, order_gain, spell
from tests.support import DISCOUNTS, HALF, frac, is_frozen, is_proper, ratio_of

ZERO = (0, 1)
ONE = (1, 1)


def random_lengths(seed, most):
    """The same lengths for the same seed, some of those from 1 to most."""
    rng = random.Random(seed)
    chosen = sorted(rng.sample(range(1, most + 1), rng.randint(1, min(most, 5))))
    weights = [rng.randint(1, 6) for _ in chosen]
    return tuple((length, ratio_of(Fraction(weight, sum(weights)))) for length, weight in zip(chosen, weights))


LENGTHS = [
    ((1, ONE),), ((2, ONE),), ((7, ONE),), ((1, (1, 3)), (2, (2, 3))), ((1, (9, 10)), (5, (1, 10))),
    ((2, (1, 10 ** 30)), (4, (10 ** 30 - 1, 10 ** 30))), ((3, (1, 2)), (4, (1, 4)), (6, (1, 4))),
] + [random_lengths(seed, 2 + seed) for seed in range(7)]
REWARDS = (ONE, (2, 7), (10 ** 40, 3), (1, 10 ** 40))


def chance_told(lengths, age):
    known = {length: frac(probability) for length, probability in lengths}
    return known.get(age + 1, 0) / sum(part for length, part in known.items() if length > age)


def spell_told(reward, lengths, age, to, discount):
    """The pair of the spell, by the chances to finish after each further step."""
    b = frac(discount)
    left = Fraction(1)
    earned = factor = Fraction(0)
    for step in range(to - age):
        done = left * chance_told(lengths, age + step)
        earned += b ** step * done * frac(reward)
        factor += b ** (step + 1) * done
        left -= done
    return earned, factor + left * b ** (to - age)


def gain_told(jobs, order, discount):
    gain = Fraction(0)
    for at in range(len(order)):
        steps = sum(jobs[position][1] for position in order[:at + 1])
        gain += frac(jobs[order[at]][0]) * frac(discount) ** (steps - 1)
    return gain


class FinishingChance(unittest.TestCase):
    def test_each_age(self):
        for lengths in LENGTHS:
            for age in range(lengths[-1][0]):
                chance = finishing_chance(lengths, age)
                self.assertTrue(is_proper(chance))
                self.assertEqual(frac(chance), chance_told(lengths, age))
            self.assertEqual(finishing_chance(lengths, lengths[-1][0] - 1), ONE)

    def test_told(self):
        lengths = ((1, (1, 3)), (3, HALF), (4, (1, 6)))
        self.assertEqual([finishing_chance(lengths, age) for age in range(4)], [(1, 3), ZERO, (3, 4), ONE])
        # After the length 1 the chance of the rest counts as all.
        self.assertEqual([finishing_chance(((1, HALF), (2, HALF)), age) for age in range(2)], [HALF, ONE])


class JobGame(unittest.TestCase):
    def test_the_game_of_the_document(self):
        for lengths in LENGTHS:
            for reward in REWARDS:
                game = job_game(reward, lengths)
                self.assertTrue(is_frozen(game))
                rewards, moves = game
                last = lengths[-1][0]
                self.assertEqual((len(rewards), len(moves)), (last + 1, last + 1))
                self.assertEqual((rewards[last], moves[last]), (ZERO, ((last, ONE),)))
                for age in range(last):
                    chance = chance_told(lengths, age)
                    self.assertEqual(frac(rewards[age]), chance * frac(reward))
                    wanted = {last: chance}
                    if chance < 1:
                        wanted[age + 1] = 1 - chance
                    wanted = {target: part for target, part in wanted.items() if part > 0}
                    self.assertEqual([target for target, _ in moves[age]], sorted(wanted))
                    self.assertEqual({target: frac(part) for target, part in moves[age]}, wanted)
                self.assertEqual(make_game(*game), game)

    def test_told(self):
        self.assertEqual(job_game(ONE, ((1, (1, 3)), (2, (2, 3)))),
                         (((1, 3), (1, 1), (0, 1)), (((1, (2, 3)), (2, (1, 3))), ((2, (1, 1)),), ((2, (1, 1)),))))
        self.assertEqual(job_game((5, 1), ((1, ONE),)), (((5, 1), ZERO), (((1, ONE),), ((1, ONE),))))
        self.assertEqual(job_game((5, 1), ((3, ONE),)),
                         ((ZERO, ZERO, (5, 1), ZERO), (((1, ONE),), ((2, ONE),), ((3, ONE),), ((3, ONE),))))


class Spell(unittest.TestCase):
    def test_every_age_and_end(self):
        for lengths in LENGTHS:
            for discount in DISCOUNTS:
                for age in range(lengths[-1][0]):
                    for to in range(age + 1, lengths[-1][0] + 1):
                        found = spell((2, 7), lengths, age, to, discount)
                        self.assertTrue(is_frozen(found))
                        self.assertTrue(all(is_proper(part) for part in found))
                        self.assertEqual(tuple(map(frac, found)), spell_told((2, 7), lengths, age, to, discount))

    def test_told(self):
        lengths = ((1, (1, 3)), (2, (2, 3)))
        self.assertEqual(spell(ONE, lengths, 0, 1, HALF), ((1, 3), HALF))
        self.assertEqual(spell(ONE, lengths, 0, 2, HALF), ((2, 3), (1, 3)))
        self.assertEqual(spell(ONE, lengths, 1, 2, HALF), (ONE, HALF))
        self.assertEqual(spell((10 ** 40, 3), lengths, 0, 2, ZERO), ((10 ** 40, 9), ZERO))


class JobIndex(unittest.TestCase):
    def test_the_index_of_the_game(self):
        for lengths in LENGTHS:
            for reward in REWARDS:
                for discount in DISCOUNTS[:4]:
                    wanted = indices(job_game(reward, lengths), discount)
                    for age in range(lengths[-1][0]):
                        found = job_index(reward, lengths, age, discount)
                        self.assertTrue(is_proper(found))
                        self.assertEqual(found, wanted[age])

    def test_the_greatest_quotient_of_the_spells(self):
        for lengths in LENGTHS:
            for discount in DISCOUNTS:
                for age in range(lengths[-1][0]):
                    spells = [spell_told((2, 7), lengths, age, to, discount)
                              for to in range(age + 1, lengths[-1][0] + 1)]
                    self.assertEqual(frac(job_index((2, 7), lengths, age, discount)),
                                     max(earned / (1 - factor) for earned, factor in spells))

    def test_twenty_steps(self):
        lengths = tuple((length, (1, 20)) for length in range(1, 21))
        wanted = indices(job_game(ONE, lengths), (9, 10))
        self.assertEqual([job_index(ONE, lengths, age, (9, 10)) for age in (0, 7, 19)],
                         [wanted[age] for age in (0, 7, 19)])

    def test_told(self):
        self.assertEqual(job_index(ONE, ((1, (9, 10)), (5, (1, 10))), 0, HALF), (9, 5))
        self.assertEqual(job_index(ONE, ((1, (9, 10)), (5, (1, 10))), 4, HALF), (2, 1))
        self.assertEqual(job_index(ONE, ((2, ONE),), 0, HALF), (2, 3))
        self.assertEqual(job_index(ONE, ((2, ONE),), 0, ZERO), ZERO)


def job_rows():
    """Sure jobs: none, one, equal ones, equal indexes with unequal lengths, great rewards."""
    rng = random.Random(7)
    found = [(), ((ONE, 1),), (((3, 7), 20),), ((ONE, 2), ((3, 1), 1)), ((ONE, 2),) * 3]
    # With the discount 1/2 the indexes are 2, 2 and 2/3.
    found.append((((3, 1), 2), (ONE, 1), (ONE, 2), (ONE, 1)))
    found.append((((10 ** 40, 3), 6), ((10 ** 40, 1), 7), ((1, 10 ** 40), 1), ((10 ** 40 + 1, 3), 6)))
    for many in (2, 3, 4, 5):
        found.append(tuple((ratio_of(Fraction(rng.randint(1, 9), rng.randint(1, 3))), rng.randint(1, 6))
                           for _ in range(many)))
    return found


class Orders(unittest.TestCase):
    def test_gain_of_every_order(self):
        for jobs in job_rows():
            for discount in DISCOUNTS:
                for order in list(permutations(range(len(jobs))))[:30]:
                    gain = order_gain(jobs, order, discount)
                    self.assertTrue(is_proper(gain))
                    self.assertEqual(frac(gain), gain_told(jobs, order, discount))

    def test_no_order_gains_more(self):
        for jobs in job_rows():
            for discount in DISCOUNTS:
                order = order_by_index(jobs, discount)
                self.assertTrue(is_frozen(order))
                self.assertEqual(sorted(order), list(range(len(jobs))))
                best = max(gain_told(jobs, other, discount) for other in permutations(range(len(jobs))))
                self.assertEqual(frac(order_gain(jobs, order, discount)), best)

    def test_by_the_indexes_of_the_games(self):
        for jobs in job_rows():
            for discount in DISCOUNTS[:4]:
                amounts = [frac(indices(job_game(reward, ((length, ONE),)), discount)[0]) for reward, length in jobs]
                wanted = sorted(range(len(jobs)), key=lambda position: (-amounts[position], position))
                self.assertEqual(list(order_by_index(jobs, discount)), wanted)

    def test_the_best_gain_of_the_company(self):
        for jobs in job_rows()[1:]:
            company = tuple((job_game(reward, ((length, ONE),)), 0) for reward, length in jobs)
            for discount in (ZERO, HALF, (9, 10)):
                gain = order_gain(jobs, order_by_index(jobs, discount), discount)
                self.assertEqual(gain, best_gain(company, discount))

    def test_told(self):
        jobs = (((1, 1), 2), ((3, 1), 1))
        self.assertEqual(order_gain(jobs, (1, 0), HALF), (13, 4))
        self.assertEqual(order_gain(jobs, (0, 1), HALF), (5, 4))
        self.assertEqual(order_by_index(jobs, HALF), (1, 0))
        self.assertEqual((order_by_index((), HALF), order_gain((), (), HALF)), ((), ZERO))
        self.assertEqual((order_by_index((((3, 7), 20),), HALF), order_gain((((3, 7), 2),), (0,), HALF)),
                         ((0,), (3, 14)))

    def test_equal_indexes(self):
        self.assertEqual(order_by_index((((3, 1), 2), (ONE, 1), (ONE, 2), (ONE, 1)), HALF), (0, 1, 3, 2))
        self.assertEqual(order_by_index((((2, 1), 5),) * 4, (9, 10)), (0, 1, 2, 3))

    def test_discount_zero(self):
        # Only what is paid in the very first step counts; jobs with more steps have the index zero.
        jobs = (((9, 1), 2), (ONE, 1), ((8, 1), 3), ((2, 1), 1))
        self.assertEqual(order_by_index(jobs, ZERO), (3, 1, 0, 2))
        self.assertEqual(order_gain(jobs, (3, 1, 0, 2), ZERO), (2, 1))
        self.assertEqual(order_gain(jobs, (0, 1, 2, 3), ZERO), ZERO)

    def test_many_jobs(self):
        jobs = tuple(((k % 7 + 1, 3), 1 + k % 5) for k in range(30))
        order = order_by_index(jobs, (9, 10))
        amounts = [Fraction(k % 7 + 1, 3) * Fraction(9, 10) ** (k % 5) / (1 - Fraction(9, 10) ** (1 + k % 5))
                   for k in range(30)]
        self.assertEqual(list(order), sorted(range(30), key=lambda k: (-amounts[k], k)))


if __name__ == "__main__":
    unittest.main()
