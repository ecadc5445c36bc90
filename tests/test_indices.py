import unittest

from anycompany.building import steady
from anycompany.games import steady_worth
from anycompany.indices import index_order, index_paper, indices, judge_index
from anycompany.leaving import excursion
from tests.support import (
    COIN, DISCOUNTS, HAIR, HALF, frac, games, is_frozen, is_proper, mean_after, random_game, ratio_of, ring, sets_of,
)


def amount_of(game, state, inside, discount):
    """What the excursion with this set earns for each lost part of the discount."""
    earned, factor = excursion(game, state, inside, discount)
    return frac(earned) / (1 - frac(factor))


def nearby(ratio):
    """Amounts a hair below and above, and far away."""
    return [ratio_of(frac(ratio) + step) for step in (frac(HAIR), -frac(HAIR), 1, -1)]


class IndexOrder(unittest.TestCase):
    def check_order(self, game, discount):
        order = index_order(game, discount)
        self.assertTrue(is_frozen(order))
        self.assertEqual(sorted(state for state, _ in order), list(range(len(game[0]))))
        self.assertEqual(list(order), sorted(order, key=lambda pair: (-frac(pair[1]), pair[0])))
        listed = ()
        for state, index in order:
            self.assertTrue(is_proper(index))
            candidates = {other: amount_of(game, other, listed, discount)
                          for other in range(len(game[0])) if other not in listed}
            best = max(candidates.values())
            self.assertEqual(frac(index), best)
            self.assertEqual(state, min(other for other in candidates if candidates[other] == best))
            listed = tuple(sorted(listed + (state,)))
        self.assertEqual(indices(game, discount), tuple(dict(order)[state] for state in range(len(game[0]))))

    def test_example_of_the_document(self):
        self.assertEqual(index_order(COIN, HALF), ((0, (2, 1)), (1, (0, 1))))
        self.assertEqual(indices(COIN, HALF), ((2, 1), (0, 1)))

    def test_each_step_takes_the_greatest_candidate(self):
        for game in games():
            for discount in DISCOUNTS:
                with self.subTest(game=game, discount=discount):
                    self.check_order(game, discount)

    def test_index_is_the_greatest_over_all_sets(self):
        for game in games():
            for discount in DISCOUNTS:
                told = indices(game, discount)
                self.assertTrue(is_frozen(told))
                for state in range(len(game[0])):
                    best = max(amount_of(game, state, inside, discount) for inside in sets_of(len(game[0])))
                    self.assertEqual(frac(told[state]), best)

    def test_steady_game_has_its_worth(self):
        for discount in DISCOUNTS:
            for reward in ((0, 1), (-3, 7), (10 ** 40, 1)):
                self.assertEqual(index_order(steady(reward), discount), ((0, steady_worth(reward, discount)),))

    def test_equal_indexes_list_the_lesser_state_first(self):
        same = (((3, 1),) * 5, random_game(8, 5)[1])
        for discount in DISCOUNTS:
            worth = steady_worth((3, 1), discount)
            self.assertEqual(index_order(same, discount), tuple((state, worth) for state in range(5)))
        # State 1 leads to state 2, so it has the same index although it pays less at first.
        game = (((0, 1), (5, 1), (5, 1), (0, 1)), (((0, (1, 1)),), ((2, (1, 1)),), ((1, (1, 1)),), ((3, (1, 1)),)))
        self.assertEqual([state for state, _ in index_order(game, HALF)], [1, 2, 0, 3])

    def test_discount_zero(self):
        for game in games():
            self.assertEqual(indices(game, (0, 1)), game[0])

    def test_large_rewards(self):
        game = (((10 ** 50, 1), (-10 ** 50, 1), (10 ** 50 + 1, 1)), random_game(5, 3)[1])
        for discount in DISCOUNTS:
            self.check_order(game, discount)

    def test_games_of_24_states(self):
        for game in (random_game(1, 24), random_game(2, 24, spread=24), ring(24), (((1, 3),) * 24, ring(24)[1])):
            self.check_order(game, (9, 10))


class IndexPaper(unittest.TestCase):
    def check_paper(self, game, state, paper, discount):
        """The four conditions of the document."""
        self.assertTrue(is_frozen(paper))
        index, inside, table = paper
        self.assertTrue(all(is_proper(value) for value in table + (index,)))
        self.assertEqual(len(table), len(game[0]))
        self.assertEqual(list(inside), sorted(set(inside)))
        self.assertTrue(set(inside) <= set(range(len(game[0]))))
        for here, entry in enumerate(table):
            self.assertGreaterEqual(frac(entry), frac(index))
            gain = frac(game[0][here]) + frac(discount) * mean_after(game, here, lambda k: frac(table[k]))
            self.assertGreaterEqual(frac(entry), gain)
        self.assertEqual(table[state], index)
        earned, factor = excursion(game, state, inside, discount)
        self.assertEqual(frac(earned) + frac(factor) * frac(index), frac(index))

    def test_paper_of_every_state(self):
        for game in games() + [random_game(1, 24), ring(24)]:
            for discount in DISCOUNTS[:4] if len(game[0]) < 24 else (HALF,):
                told = indices(game, discount)
                for state in range(len(game[0])):
                    paper = index_paper(game, state, discount)
                    self.check_paper(game, state, paper, discount)
                    self.assertEqual(paper[0], told[state])
                    self.assertIs(judge_index(game, state, paper, discount), True)


class JudgeIndex(unittest.TestCase):
    def check_false(self, game, state, paper, discount=HALF):
        self.assertIs(judge_index(game, state, paper, discount), False, paper)

    def test_told_papers(self):
        self.assertIs(judge_index(COIN, 0, ((2, 1), (), ((2, 1), (2, 1))), HALF), True)
        self.assertIs(judge_index(COIN, 1, ((0, 1), (0,), ((4, 3), (0, 1))), HALF), True)

    def test_other_right_papers(self):
        # The state itself may stand inside, and an entry of another state may be greater than needed.
        self.assertIs(judge_index(COIN, 0, ((2, 1), (0,), ((2, 1), (2, 1))), HALF), True)
        self.assertIs(judge_index(COIN, 1, ((0, 1), (0, 1), ((9, 1), (0, 1))), HALF), True)

    def test_wrong_index(self):
        for game in games():
            for state in range(len(game[0])):
                index, inside, table = index_paper(game, state, HALF)
                for other in nearby(index):
                    self.check_false(game, state, (other, inside, table))
                    moved = tuple(ratio_of(frac(entry) + frac(other) - frac(index)) for entry in table)
                    self.check_false(game, state, (other, inside, moved))
                    own = tuple(other if k == state else entry for k, entry in enumerate(table))
                    self.check_false(game, state, (other, inside, own))

    def test_index_is_told_too_great(self):
        # All but the last condition hold: the index is not reached by the excursion.
        self.check_false(COIN, 0, ((3, 1), (), ((3, 1), (3, 1))))
        self.check_false(COIN, 1, ((2, 1), (0,), ((2, 1), (2, 1))))

    def test_inside_that_does_not_reach_the_index(self):
        self.check_false(COIN, 0, ((2, 1), (1,), ((2, 1), (2, 1))))
        self.check_false(COIN, 0, ((2, 1), (0, 1), ((2, 1), (2, 1))))

    def test_entry_too_small(self):
        # Below the index, and below playing once from state 0.
        self.check_false(COIN, 0, ((2, 1), (), ((2, 1), (19, 10))))
        self.check_false(COIN, 1, ((0, 1), (0,), ((13, 10), (0, 1))))
        self.check_false(COIN, 1, ((0, 1), (0,), ((4 * 10 ** 30 - 1, 3 * 10 ** 30), (0, 1))))
        for game in games():
            for state in range(len(game[0])):
                index, inside, table = index_paper(game, state, HALF)
                for at, entry in enumerate(table):
                    low = ratio_of(frac(entry) - frac(HAIR))
                    self.check_false(game, state, (index, inside, table[:at] + (low,) + table[at + 1:]))

    def test_entry_of_the_state_too_great(self):
        for game in games():
            for state in range(len(game[0])):
                index, inside, table = index_paper(game, state, HALF)
                high = ratio_of(frac(index) + frac(HAIR))
                self.check_false(game, state, (index, inside, table[:state] + (high,) + table[state + 1:]))

    def test_entries_too_many_or_too_few(self):
        for game in games():
            for state in range(len(game[0])):
                index, inside, table = index_paper(game, state, HALF)
                self.check_false(game, state, (index, inside, table + (index,)))
                self.check_false(game, state, (index, inside, table + table))
                self.check_false(game, state, (index, inside, table[:-1]))
                self.check_false(game, state, (index, inside, ()))

    def test_set_of_a_wrong_form(self):
        game = ring(4)
        index, inside, table = index_paper(game, 0, HALF)
        self.assertEqual(inside, (1, 2, 3))
        for wrong in ((3, 2, 1), (2, 1, 3), (1, 3, 2), (1, 1, 2, 3), (1, 2, 3, 3), (1, 2, 3, 4), (-1, 1, 2, 3),
                      (-3, -2, -1), (1, 2, 3, 10 ** 30), (-10 ** 30, 1, 2, 3), (1, 2, 3) * 50,
                      (1, 2, 3, 10 ** 5000), (-10 ** 5000, 1, 2, 3)):
            self.check_false(game, 0, (index, wrong, table))

    def test_paper_of_another_state_only(self):
        for game in games():
            told = indices(game, HALF)
            papers = [index_paper(game, state, HALF) for state in range(len(game[0]))]
            for state in range(len(game[0])):
                for other in range(len(game[0])):
                    if told[state] != told[other]:
                        self.check_false(game, state, papers[other])


if __name__ == "__main__":
    unittest.main()
