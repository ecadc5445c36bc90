"""Games of chance: making them from loose data, and what can be said of one game."""

from anycompany.errors import (
    BadState, BadTarget, BadTotal, InvalidDiscount, NegativeProbability, NoStates, WrongLength,
)
from anycompany.ratio import add, compare, divide, multiply, subtract, total


def make_game(rewards, moves):
    """Returns the game of loose rewards and moves."""
    size = len(rewards)
    if size == 0:
        raise NoStates("a game has at least one state")
    if len(moves) != size:
        raise WrongLength("a game has one row for each reward")
    rows = [made_row(moves[state], state, size) for state in range(size)]
    return (tuple(rewards), tuple(rows))


def made_row(pairs, state, size):
    """Returns the row of a state, of pairs in any order."""
    sums = {}
    for target, probability in pairs:
        if target < 0 or target >= size:
            raise BadTarget(state)
        if compare(probability, (0, 1)) < 0:
            raise NegativeProbability(state)
        sums[target] = add(sums.get(target, (0, 1)), probability)
    if total(list(sums.values())) != (1, 1):
        raise BadTotal(state)
    return tuple([(target, sums[target]) for target in sorted(list(sums)) if sums[target] != (0, 1)])


def make_place(game, state):
    """Returns the place of a game that stands in a state."""
    rewards, _ = game
    if state < 0 or state >= len(rewards):
        raise BadState(state)
    return (game, state)


def reachable(game, state):
    """Returns the tuple of the states that are reachable from the state, in ascending order."""
    _, moves = game
    found = {state: True}
    waiting = [state]
    while len(waiting) > 0:
        here = waiting.pop()
        for target, _ in moves[here]:
            if target not in found:
                found[target] = True
                waiting.append(target)
    return tuple(sorted(list(found)))


def trimmed(place):
    """Returns the place whose game has only the states that are reachable from its state."""
    game, state = place
    rewards, moves = game
    kept = reachable(game, state)
    numbers = {kept[k]: k for k in range(len(kept))}
    rows = [renumbered(moves[old], numbers) for old in kept]
    return ((tuple([rewards[old] for old in kept]), tuple(rows)), numbers[state])


def renumbered(row, numbers):
    return tuple([(numbers[target], probability) for target, probability in row])


def check_discount(discount):
    """Raises InvalidDiscount if the ratio is less than zero or not less than one."""
    if compare(discount, (0, 1)) < 0 or compare(discount, (1, 1)) >= 0:
        raise InvalidDiscount("a discount is at least zero and less than one")


def steady_worth(reward, discount):
    """Returns the worth of a steady game."""
    return divide(reward, subtract((1, 1), discount))


def steady_reward(worth, discount):
    """Returns the reward of the steady game with this worth."""
    return multiply(worth, subtract((1, 1), discount))


def expected(row, amounts):
    """Returns the expected amount after the move of a row, of amounts by state."""
    return total([multiply(probability, amounts[target]) for target, probability in row])


def played(game, state, amounts, discount):
    """Returns the gain of playing once, when after the move there is an amount by state."""
    rewards, moves = game
    return add(rewards[state], multiply(discount, expected(moves[state], amounts)))
