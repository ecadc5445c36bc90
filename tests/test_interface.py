"""The names, files and arguments that the document's interface lists."""

import importlib
import inspect
import unittest

INTERFACE = {
    "ratio": (
        "make_ratio(n, d)", "is_ratio(value)", "add(a, b)", "subtract(a, b)", "multiply(a, b)", "divide(a, b)",
        "compare(a, b)", "total(values)", "largest(values)", "power(a, k)"),
    "linear": ("solve(matrix, right)",),
    "games": (
        "make_game(rewards, moves)", "make_place(game, state)", "reachable(game, state)", "trimmed(place)",
        "check_discount(discount)", "steady_worth(reward, discount)", "steady_reward(worth, discount)"),
    "building": (
        "steady(reward)", "throw(reward, outcomes)", "pay_row(rewards, back)", "prelude(reward, parts)",
        "scaled(game, *, factor=(1, 1), shift=(0, 1))"),
    "leaving": ("leave_values(game, inside, discount)", "excursion(game, state, inside, discount)"),
    "indices": (
        "index_order(game, discount)", "indices(game, discount)", "index_paper(game, state, discount)",
        "judge_index(game, state, paper, discount)"),
}


class Interface(unittest.TestCase):
    def test_functions_stand_in_their_files_with_their_arguments(self):
        for file, signatures in INTERFACE.items():
            module = importlib.import_module(f"anycompany.{file}")
            for signature in signatures:
                with self.subTest(file=file, signature=signature):
                    name = signature.partition("(")[0]
                    told = getattr(module, name)
                    self.assertTrue(inspect.isfunction(told))
                    self.assertEqual(told.__module__, module.__name__)
                    self.assertEqual(name + str(inspect.signature(told)), signature)


if __name__ == "__main__":
    unittest.main()
