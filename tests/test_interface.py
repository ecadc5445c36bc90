"""The names, files and arguments that the document's interface lists."""

import importlib
import inspect
import unittest

INTERFACE = {
    "ratio": (
        "make_ratio(n, d)", "is_ratio(value)", "add(a, b)", "subtract(a, b)", "multiply(a, b)", "divide(a, b)",
        "compare(a, b)", "total(values)", "largest(values)", "power(a, k)"),
    "linear": ("solve(matrix, right)",),
    "games": (
        "make_game(rewards, moves)", "make_place(game, state)", "reachable(game, state)", "trimmed(place)",
        "check_discount(discount)", "steady_worth(reward, discount)", "steady_reward(worth, discount)"),
    "building": (
        "steady(reward)", "throw(reward, outcomes)", "pay_row(rewards, back)", "prelude(reward, parts)",
        "scaled(game, *, factor=(1, 1), shift=(0, 1))"),
    "leaving": ("leave_values(game, inside, discount)", "excursion(game, state, inside, discount)"),
    "indices": (
        "index_order(game, discount)", "indices(game, discount)", "index_paper(game, state, discount)",
        "judge_index(game, state, paper, discount)"),
    "profiles": (
        "game_curve(place, discount)", "stop_table(game, amount, discount)", "standard_game(curve, discount)"),
    "companies": (
        "company_curve(company, discount)", "best_gain(company, discount, *, stop=None)",
        "best_step(company, discount, *, stop=None)", "moved(company, position, state)",
        "play_value(company, position, discount, *, stop=None)",
        "step_cost(company, position, discount, *, stop=None)"),
    "tables": (
        "joint_states(games)", "value_table(games, discount, *, stop=None)",
        "first_misfit(games, table, discount, *, stop=None)"),
    "trees": (
        "check_plan(company, plan, *, stop=None)", "plan_gain(company, plan, discount, *, stop=None)",
        "plan_costs(company, plan, discount, *, stop=None)", "plan_loss(company, plan, discount, *, stop=None)",
        "best_plan(company, depth, discount, *, stop=None)"),
    "stationary": (
        "choice_values(games, choices, discount)", "improved(games, choices, discount)",
        "settled(games, choices, discount)", "choice_costs(games, choices, discount)",
        "choice_losses(games, choices, discount)"),
    "comparing": (
        "never_worse(first, second, discount)", "alike(first, second, discount)",
        "relation(first, second, discount)", "shortlist(places, discount)",
        "greatest_loss(first, second, discount)", "parting_reward(first, second, discount)",
        "distance(first, second, discount)", "joined(first, second, discount)", "met(first, second, discount)",
        "single(company, discount)"),
    "tolls": (
        "with_toll(place, toll)", "fair_toll(first, second, discount)", "needless(company, position, discount)"),
    "copies": (
        "copies_gain(place, count, discount)", "shortage(place, count, discount)",
        "enough_copies(place, bound, discount)"),
    "visits": (
        "pairs_of(company)", "choice_visits(company, choices, discount)", "order_visits(company, order, discount)",
        "visits_gain(company, visits)"),
    "region": (
        "rule(company, chosen, discount)", "broken_set(company, visits, discount)",
        "mixture(company, visits, discount)"),
    "trials": (
        "evidence(hypotheses, successes, failures)", "mean(hypotheses, successes, failures)",
        "records(hypotheses, rounds)", "trial_game(hypotheses, rounds)"),
    "jobs": (
        "job_game(reward, lengths)", "finishing_chance(lengths, age)", "spell(reward, lengths, age, to, discount)",
        "job_index(reward, lengths, age, discount)", "order_gain(jobs, order, discount)",
        "order_by_index(jobs, discount)"),
    "writing": ("write_ratio(value)", "write_book(book)"),
    "reading": ("read_ratio(text)", "read_book(text)", "company_of(book)"),
}
CLASSES = {
    "curves": {
        "Curve": (
            "__init__(self, knots)", "value(self, amount)", "__call__(self, amount)", "slope(self, amount)",
            "__iter__(self)", "__mul__(self, other)", "__or__(self, other)", "__and__(self, other)",
            "lack(self, other)", "never_below(self, other)", "fits(self, discount)"),
    },
    "house": {
        "House": (
            "__init__(self, discount, *, idle=(0, 1))", "enter(self, game, state)", "leave(self, number)",
            "play(self, number, target)", "rest(self)", "undo(self)", "perform(self, deeds)", "places(self)",
            "best_gain(self)", "advice(self)", "ledger(self)"),
    },
}
PROPERTIES = {"Curve": ("floor", "top"), "House": ("clock",)}


class Interface(unittest.TestCase):
    def test_functions_stand_in_their_files_with_their_arguments(self):
        for file, signatures in INTERFACE.items():
            module = importlib.import_module(f"anycompany.{file}")
            for signature in signatures:
                with self.subTest(file=file, signature=signature):
                    name = signature.partition("(")[0]
                    told = getattr(module, name)
                    self.assertTrue(inspect.isfunction(told))
                    self.assertEqual(told.__module__, module.__name__)
                    self.assertEqual(name + str(inspect.signature(told)), signature)

    def test_methods_and_properties_are_defined_in_the_class_itself(self):
        for file, classes in CLASSES.items():
            module = importlib.import_module(f"anycompany.{file}")
            for name, signatures in classes.items():
                told = getattr(module, name)
                self.assertTrue(inspect.isclass(told))
                self.assertEqual(told.__module__, module.__name__)
                for signature in signatures:
                    with self.subTest(name=name, signature=signature):
                        method = vars(told)[signature.partition("(")[0]]
                        self.assertTrue(inspect.isfunction(method))
                        self.assertEqual(method.__name__ + str(inspect.signature(method)), signature)
                for wanted in PROPERTIES[name]:
                    self.assertIsInstance(vars(told)[wanted], property)


if __name__ == "__main__":
    unittest.main()
