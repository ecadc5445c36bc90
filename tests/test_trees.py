import random
import unittest
from fractions import Fraction

from anycompany.building import steady
from anycompany.companies import best_gain, best_step, moved, step_cost
from anycompany.errors import BadPlan
from anycompany.indices import indices
from anycompany.trees import best_plan, check_plan, plan_costs, plan_gain, plan_loss
from tests.support import (
    COIN, HALF, ErrorTest, companies, frac, is_frozen, is_proper, random_game, ring, stops_for,
)

BEST = ("best",)
STOP = ("stop",)
ONE = (1, 1)
SOME = ((0, 1), HALF, (9, 10))
CHAIN = ((ring(3), 0), (ring(2), 1))


def words(stop):
    return {} if stop is None else {"stop": stop}


def row_of(company, position):
    game, state = company[position]
    return game[1][state]


def random_plan(rng, company, depth, stop):
    """A right plan of at most this depth."""
    kind = rng.choice(("play", "play", "play", "best", "stop"))
    if depth > 0 and kind == "play":
        position = rng.randrange(len(company))
        return ("play", position, tuple(random_plan(rng, moved(company, position, target), depth - 1, stop)
                                        for target, _ in row_of(company, position)))
    return STOP if kind == "stop" and stop is not None else BEST


def full_plan(company, position, depth, leaf):
    """Always the same position, down to the depth."""
    if depth == 0:
        return leaf
    return ("play", position, tuple(full_plan(moved(company, position, target), position, depth - 1, leaf)
                                    for target, _ in row_of(company, position)))


def nodes_of(company, plan, path=()):
    """All nodes in preorder, each as (path, company there, node)."""
    found = [(path, company, plan)]
    if plan[0] == "play":
        for k, (target, _) in enumerate(row_of(company, plan[1])):
            found += nodes_of(moved(company, plan[1], target), plan[2][k], path + (k,))
    return found


def replaced(plan, path, node):
    if not path:
        return node
    kind, position, plans = plan
    at = path[0]
    return (kind, position, plans[:at] + (replaced(plans[at], path[1:], node),) + plans[at + 1:])


def node_at(plan, path):
    for at in path:
        plan = plan[2][at]
    return plan


def wrong_nodes(company, node, stop):
    """Wrong nodes that can stand in the place of this one."""
    found = [("play", position, (BEST,) * 2) for position in (-1, -2, len(company), len(company) + 1, 10 ** 30)]
    for position in range(len(company)):
        size = len(row_of(company, position))
        found += [("play", position, (BEST,) * many) for many in (0, size - 1, size + 1, 2 * size) if many != size]
    if node[0] == "play":
        found += [("play", node[1], node[2][:-1]), ("play", node[1], node[2] + (BEST,)), ("play", -1, node[2])]
    return found + ([STOP] if stop is None else [])


def some_plans(stop):
    """Companies with right plans of the depths 0 to 3, and deep ones where each state has one target."""
    rng = random.Random(7)
    for company in companies():
        for leaf in (BEST,) if stop is None else (BEST, STOP):
            yield company, leaf
        for depth in (1, 2, 3):
            yield company, random_plan(rng, company, depth, stop)
        yield company, full_plan(company, len(company) - 1, 2, BEST)
    yield CHAIN, full_plan(CHAIN, 0, 40, BEST)
    yield CHAIN, full_plan(CHAIN, 1, 40, BEST if stop is None else STOP)


class CheckPlan(ErrorTest):
    def check_bad(self, company, plan, stop, path):
        """All functions about plans refuse it alike."""
        self.check_error(BadPlan, lambda: check_plan(company, plan, **words(stop)), path=path)
        for call in (plan_gain, plan_costs, plan_loss):
            self.check_error(BadPlan, lambda: call(company, plan, HALF, **words(stop)), path=path)

    def test_right_plans(self):
        for stop in (None, (1, 1)):
            for company, plan in some_plans(stop):
                self.assertIsNone(check_plan(company, plan, **words(stop)))
                self.assertIsNone(check_plan(company, plan, stop=stop))

    def test_stop_needs_a_stop_amount(self):
        company = ((COIN, 0), (COIN, 1))
        self.check_bad(company, STOP, None, ())
        self.check_error(BadPlan, lambda: check_plan(company, STOP, stop=None), path=())
        self.assertIsNone(check_plan(company, STOP, stop=(0, 1)))
        deep = ("play", 0, (BEST, ("play", 1, (STOP,))))
        self.check_bad(company, deep, None, (1, 0))
        self.assertIsNone(check_plan(company, deep, stop=(-5, 1)))

    def test_positions(self):
        company = ((COIN, 0), (COIN, 1))
        for position in (-1, -2, -3, 2, 3, 10 ** 30, -10 ** 30, 10 ** 5000, -10 ** 5000):
            for plans in ((), (BEST,), (BEST, BEST)):
                self.check_bad(company, ("play", position, plans), None, ())
                self.check_bad(company, ("play", 0, (BEST, ("play", position, plans))), (1, 1), (1,))

    def test_numbers_of_plans(self):
        company = ((COIN, 0), (COIN, 1))
        for position, many in ((0, 0), (0, 1), (0, 3), (1, 0), (1, 2)):
            node = ("play", position, (BEST,) * many)
            self.check_bad(company, node, None, ())
            self.check_bad(company, ("play", 1, (node,)), (1, 1), (0,))

    def test_plans_belong_to_the_state_after_the_move(self):
        company = ((COIN, 0),)
        both, one = ("play", 0, (BEST, BEST)), ("play", 0, (BEST,))
        self.assertIsNone(check_plan(company, ("play", 0, (both, one))))
        self.check_bad(company, ("play", 0, (one, one)), None, (0,))
        self.check_bad(company, ("play", 0, (both, both)), None, (1,))

    def test_a_wrong_node_comes_before_the_nodes_below_it(self):
        company = ((COIN, 0), (COIN, 0))
        bad = ("play", 9, ())
        self.check_bad(company, ("play", 0, (bad, bad, bad)), None, ())
        self.check_bad(company, ("play", -1, (bad, STOP)), None, ())
        self.check_bad(company, ("play", 0, (("play", 1, (STOP,)), bad)), None, (0,))
        self.check_bad(company, ("play", 0, (("play", 1, (BEST, STOP)), bad)), None, (0, 1))

    def test_each_node_wrong(self):
        for stop in (None, (1, 1)):
            for company, plan in some_plans(stop):
                for path, there, node in nodes_of(company, plan)[::3]:
                    for wrong in wrong_nodes(there, node, stop):
                        self.check_error(BadPlan, lambda: check_plan(
                            company, replaced(plan, path, wrong), stop=stop), path=path)

    def test_several_wrong_nodes(self):
        rng = random.Random(3)
        for stop in (None, (1, 1)):
            for company, plan in some_plans(stop):
                found = nodes_of(company, plan)
                paths = sorted(path for path, _, _ in rng.sample(found, min(3, len(found))))
                broken = plan
                for path in reversed(paths):
                    # The nodes below stay, so that a wrong node stands above wrong ones, too.
                    node = node_at(broken, path)
                    broken = replaced(broken, path, ("play", len(company), node[2] if node[0] == "play" else ()))
                self.check_bad(company, broken, stop, paths[0])

    def test_path_is_a_tuple(self):
        plan = full_plan(CHAIN, 0, 40, ("play", 2, (BEST,)))
        self.check_bad(CHAIN, plan, None, (0,) * 40)
        with self.assertRaises(BadPlan) as caught:
            check_plan(CHAIN, plan)
        self.assertIs(type(caught.exception.path), tuple)

    def test_stop_is_passed_by_name(self):
        for call in (lambda: check_plan(CHAIN, BEST, ONE), lambda: plan_gain(CHAIN, BEST, HALF, ONE),
                     lambda: plan_costs(CHAIN, BEST, HALF, ONE), lambda: plan_loss(CHAIN, BEST, HALF, ONE),
                     lambda: best_plan(CHAIN, 1, HALF, ONE)):
            with self.assertRaises(TypeError):
                call()


def told_gain(company, plan, discount, stop):
    """The gain of a plan, node by node."""
    if plan[0] == "best":
        return frac(best_gain(company, discount, stop=stop))
    if plan[0] == "stop":
        return frac(stop)
    game, state = company[plan[1]]
    return frac(game[0][state]) + frac(discount) * sum(
        frac(chance) * told_gain(moved(company, plan[1], target), below, discount, stop)
        for (target, chance), below in zip(game[1][state], plan[2]))


def told_costs(company, plan, discount, stop, weight=Fraction(1)):
    """The weight and the cost of each node in preorder."""
    if plan[0] == "best":
        return [(weight, Fraction(0))]
    if plan[0] == "stop":
        return [(weight, frac(best_gain(company, discount, stop=stop)) - frac(stop))]
    found = [(weight, frac(step_cost(company, plan[1], discount, stop=stop)))]
    for (target, chance), below in zip(row_of(company, plan[1]), plan[2]):
        later = weight * frac(discount) * frac(chance)
        found += told_costs(moved(company, plan[1], target), below, discount, stop, later)
    return found


class GainCostsAndLoss(unittest.TestCase):
    def test_all_plans(self):
        for stop in (None, (1, 1), (-3, 2), (10 ** 40, 3)):
            for company, plan in some_plans(stop):
                for discount in SOME:
                    with self.subTest(company=company, plan=plan, discount=discount, stop=stop):
                        self.check_plan(company, plan, discount, stop)

    def check_plan(self, company, plan, discount, stop):
        gain = plan_gain(company, plan, discount, **words(stop))
        self.assertTrue(is_proper(gain))
        self.assertEqual(frac(gain), told_gain(company, plan, discount, stop))
        costs = plan_costs(company, plan, discount, **words(stop))
        self.assertTrue(is_frozen(costs))
        self.assertTrue(all(is_proper(part) for pair in costs for part in pair))
        self.assertEqual([(frac(weight), frac(cost)) for weight, cost in costs],
                         told_costs(company, plan, discount, stop))
        loss = plan_loss(company, plan, discount, **words(stop))
        self.assertTrue(is_proper(loss))
        self.assertEqual(frac(loss), frac(best_gain(company, discount, stop=stop)) - frac(gain))
        self.assertEqual(frac(loss), sum(frac(weight) * frac(cost) for weight, cost in costs))
        self.assertGreaterEqual(frac(loss), 0)

    def test_told(self):
        company = ((COIN, 0), (steady((1, 2)), 0))
        wait = ("play", 1, (("play", 0, (BEST, BEST)),))
        self.assertEqual(plan_gain(company, BEST, HALF), (5, 3))
        self.assertEqual(plan_gain(company, wait, HALF), (4, 3))
        self.assertEqual(plan_costs(company, wait, HALF), ((ONE, (1, 3)), (HALF, (0, 1)), ((1, 8), (0, 1)),
                                                          ((1, 8), (0, 1))))
        self.assertEqual(plan_loss(company, wait, HALF), (1, 3))
        self.assertEqual(plan_gain(company, STOP, HALF, stop=(1, 3)), (1, 3))
        self.assertEqual(plan_costs(company, STOP, HALF, stop=(1, 3)), ((ONE, (4, 3)),))
        self.assertEqual(plan_loss(company, STOP, HALF, stop=(1, 3)), (4, 3))
        self.assertEqual(plan_loss(company, STOP, HALF, stop=(2, 1)), (0, 1))

    def test_many_nodes(self):
        company = ((random_game(71, 6), 0), (random_game(72, 6), 1), (random_game(73, 6), 2))
        for position in range(3):
            plan = full_plan(company, position, 5, BEST)
            costs = plan_costs(company, plan, (9, 10))
            self.assertEqual(len(costs), len(nodes_of(company, plan)))
            self.assertEqual(frac(plan_loss(company, plan, (9, 10))), sum(frac(w) * frac(c) for w, c in costs))


class BestPlan(unittest.TestCase):
    def check_node(self, company, plan, depth, discount, stop):
        if depth == 0:
            self.assertEqual(plan, BEST)
            return
        step = best_step(company, discount, stop=stop)
        if step is None:
            self.assertEqual(plan, STOP)
            return
        kind, position, plans = plan
        self.assertEqual((kind, position), ("play", step))
        row = row_of(company, step)
        self.assertEqual(len(plans), len(row))
        for (target, _), below in zip(row, plans):
            self.check_node(moved(company, step, target), below, depth - 1, discount, stop)

    def test_best_steps_down_to_the_depth(self):
        for company in companies():
            for discount in SOME:
                for stop in stops_for([indices(game, discount)[state] for game, state in company])[:8]:
                    for depth in (0, 1, 2):
                        plan = best_plan(company, depth, discount, **words(stop))
                        self.check_node(company, plan, depth, discount, stop)
                        self.assertIsNone(check_plan(company, plan, stop=stop))
                        self.assertEqual(plan_gain(company, plan, discount, stop=stop),
                                         best_gain(company, discount, stop=stop))
                        self.assertTrue(all(cost == (0, 1) for _, cost in
                                            plan_costs(company, plan, discount, stop=stop)))

    def test_told(self):
        company = ((COIN, 1), (COIN, 0))
        self.assertEqual(best_plan(company, 0, HALF), BEST)
        self.assertEqual(best_plan(company, 1, HALF), ("play", 1, (BEST, BEST)))
        self.assertEqual(best_plan(company, 2, HALF), (
            "play", 1, (("play", 1, (BEST, BEST)), ("play", 0, (BEST,)))))
        self.assertEqual(best_plan(company, 2, HALF, stop=None), best_plan(company, 2, HALF))
        self.assertEqual(best_plan(company, 2, HALF, stop=(1, 1)), (
            "play", 1, (("play", 1, (BEST, BEST)), STOP)))
        self.assertEqual(best_plan(company, 0, HALF, stop=(2, 1)), BEST)
        self.assertEqual(best_plan(company, 5, HALF, stop=(2, 1)), STOP)
        self.assertEqual(best_plan(((COIN, 0), (COIN, 0)), 1, HALF), ("play", 0, (BEST, BEST)))

    def test_depth_of_40(self):
        plan = best_plan(CHAIN, 40, HALF)
        self.check_node(CHAIN, plan, 40, HALF, None)
        self.assertEqual(len(plan_costs(CHAIN, plan, HALF)), 41)
        self.assertEqual(plan_loss(CHAIN, plan, HALF), (0, 1))


if __name__ == "__main__":
    unittest.main()
