import unittest
from itertools import product

from anycompany.building import steady
from anycompany.companies import best_gain
from anycompany.indices import indices
from anycompany.tables import first_misfit, joint_states, value_table
from tests.support import COIN, HAIR, HALF, frac, games, is_frozen, is_proper, random_game, ratio_of, ring, stops_for

SOME = ((0, 1), HALF, (9, 10), (10 ** 30 - 1, 10 ** 30))
TOLD = games()


def groups():
    """Tuples of one to four games, the same game twice among them."""
    found = [(COIN,), (TOLD[5],), (TOLD[9],), (COIN, COIN), (COIN, TOLD[7]), (ring(3), COIN), (TOLD[8], TOLD[5])]
    found.append((COIN, ring(2), COIN))
    found.append((TOLD[7], TOLD[8], steady((1, 3))))
    found.append((COIN, random_game(61, 2), steady((1, 1)), random_game(62, 3)))
    return found


def cases():
    for told in groups():
        for discount in SOME:
            for stop in stops_for([indices(game, discount)[0] for game in told])[:6]:
                yield told, discount, stop


def words(stop):
    return {} if stop is None else {"stop": stop}


def candidates(told, entries, states, discount, stop):
    """What an entry is the greatest one of; entries is a dict by joint state."""
    found = [] if stop is None else [frac(stop)]
    for position, game in enumerate(told):
        later = sum(frac(chance) * frac(entries[states[:position] + (target,) + states[position + 1:]])
                    for target, chance in game[1][states[position]])
        found.append(frac(game[0][states[position]]) + frac(discount) * later)
    return found


def misfit(told, table, discount, stop):
    entries = dict(zip(joint_states(told), table))
    for states, entry in entries.items():
        if frac(entry) != max(candidates(told, entries, states, discount, stop)):
            return states
    return None


class JointStates(unittest.TestCase):
    def test_all_in_ascending_order(self):
        for told in groups() + [(random_game(1, 24), random_game(2, 12)), (COIN,) * 8, (random_game(3, 24),)]:
            found = joint_states(told)
            self.assertTrue(is_frozen(found))
            self.assertEqual(found, tuple(product(*[range(len(game[0])) for game in told])))
            self.assertEqual(list(found), sorted(found))

    def test_told(self):
        self.assertEqual(joint_states((COIN,)), ((0,), (1,)))
        self.assertEqual(joint_states((COIN, ring(3))), ((0, 0), (0, 1), (0, 2), (1, 0), (1, 1), (1, 2)))


class ValueTable(unittest.TestCase):
    def test_equation_and_best_gains(self):
        for told, discount, stop in cases():
            table = value_table(told, discount, **words(stop))
            self.assertTrue(is_frozen(table))
            self.assertTrue(all(is_proper(entry) for entry in table))
            self.assertEqual(len(table), len(joint_states(told)))
            self.assertIsNone(misfit(told, table, discount, stop))
            self.assertIsNone(first_misfit(told, table, discount, **words(stop)))

    def test_best_gain_of_the_company_in_each_joint_state(self):
        for told in groups():
            for stop in (None, (1, 1), (-9, 1)):
                for states, entry in zip(joint_states(told), value_table(told, HALF, stop=stop)):
                    self.assertEqual(best_gain(tuple(zip(told, states)), HALF, stop=stop), entry)

    def test_told(self):
        self.assertEqual(value_table((COIN, COIN), HALF), ((16, 9), (4, 3), (4, 3), (0, 1)))
        self.assertEqual(value_table((COIN,), HALF, stop=(1, 1)), ((5, 3), (1, 1)))
        self.assertEqual(value_table((COIN,), HALF, stop=None), ((4, 3), (0, 1)))

    def test_300_joint_states(self):
        for told in ((random_game(1, 24, spread=24), random_game(2, 12)),
                     (random_game(3, 6), random_game(4, 7), random_game(5, 7)), (COIN,) * 8):
            table = value_table(told, (9, 10))
            self.assertIsNone(misfit(told, table, (9, 10), None))
            self.assertIsNone(first_misfit(told, table, (9, 10)))


class FirstMisfit(unittest.TestCase):
    def test_one_wrong_entry(self):
        for told, discount, stop in cases():
            table = value_table(told, discount, **words(stop))
            for at in sorted({0, len(table) // 2, len(table) - 1}):
                for step in (frac(HAIR), -frac(HAIR), 10 ** 43, -10 ** 43):
                    wrong = table[:at] + (ratio_of(frac(table[at]) + step),) + table[at + 1:]
                    found = first_misfit(told, wrong, discount, **words(stop))
                    self.assertEqual(found, misfit(told, wrong, discount, stop))
                    self.assertIsNotNone(found)

    def test_a_wrong_entry_that_no_other_one_uses(self):
        # Without a discount each entry is told by the rewards alone.
        for told in groups():
            found = joint_states(told)
            table = value_table(told, (0, 1))
            for at, states in enumerate(found):
                for step in (frac(HAIR), -frac(HAIR)):
                    wrong = table[:at] + (ratio_of(frac(table[at]) + step),) + table[at + 1:]
                    self.assertEqual(first_misfit(told, wrong, (0, 1)), states)
                    twice = wrong[:-1] + (ratio_of(frac(table[-1]) + 1),)
                    self.assertEqual(first_misfit(told, twice, (0, 1)), states)

    def test_first_and_last_joint_state(self):
        table = value_table((COIN, COIN), HALF)
        self.assertEqual(first_misfit((COIN, COIN), ((17, 9),) + table[1:], HALF), (0, 0))
        self.assertEqual(first_misfit((COIN, COIN), ((5, 3),) + table[1:], HALF), (0, 0))
        steadies = (steady((3, 1)), COIN)
        self.assertEqual(value_table(steadies, HALF), ((6, 1), (6, 1)))
        self.assertEqual(first_misfit(steadies, ((6, 1), (7, 1)), HALF), (0, 1))
        self.assertEqual(first_misfit(steadies, ((6, 1), (5, 1)), HALF), (0, 1))
        self.assertIsNone(first_misfit(steadies, ((6, 1), (6, 1)), HALF))

    def test_with_a_stop_amount(self):
        table = value_table((COIN,), HALF)
        self.assertIsNone(first_misfit((COIN,), table, HALF, stop=None))
        # The entry of state 0 is still the greatest candidate, told by the entries of the table itself.
        self.assertEqual(first_misfit((COIN,), table, HALF, stop=(1, 1)), (1,))
        self.assertEqual(first_misfit((COIN,), ((4, 3), (1, 1)), HALF, stop=(1, 1)), (0,))
        self.assertEqual(first_misfit((COIN,), ((5, 3), (1, 1)), HALF), (1,))
        self.assertIsNone(first_misfit((COIN,), ((5, 3), (1, 1)), HALF, stop=(1, 1)))
        self.assertIsNone(first_misfit((COIN,), ((9, 1), (9, 1)), HALF, stop=(9, 1)))


if __name__ == "__main__":
    unittest.main()
