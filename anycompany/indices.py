"""The index of each state of a game, and papers that prove it."""

from anycompany.games import played
from anycompany.leaving import excursion, excursion_by, leave_table
from anycompany.ratio import add, compare, divide, multiply, subtract


def index_order(game, discount):
    """Returns the index order, a tuple of pairs (state, index)."""
    return tuple([(state, index) for state, index, _ in index_steps(game, discount)])


def index_steps(game, discount):
    """Returns the list of the rows (state, index, table) of the index order.

    The table is the leave table whose inside has the states of the rows before.
    """
    rewards, _ = game
    steps = []
    for _ in rewards:
        inside = sorted([state for state, _, _ in steps])
        table = leave_table(game, tuple(inside), discount)
        state, index = following(game, inside, table, discount)
        steps.append((state, index, table))
    return steps


def following(game, inside, table, discount):
    """Returns the pair (state, index) that comes next when the states of inside are listed."""
    rewards, _ = game
    best = None
    for state in range(len(rewards)):
        if state not in inside:
            amount = candidate(game, state, table, discount)
            if best is None or compare(amount, best[1]) > 0:
                best = (state, amount)
    return best


def candidate(game, state, table, discount):
    """Returns the stop amount at which the excursion of the leave table is as good as stopping."""
    earned, factor = excursion_by(game, state, table, discount)
    return divide(earned, subtract((1, 1), factor))


def indices(game, discount):
    """Returns the tuple of the indexes, by state."""
    found = {state: index for state, index in index_order(game, discount)}
    return tuple([found[state] for state in range(len(found))])


def index_paper(game, state, discount):
    """Returns a right index paper for the state."""
    steps = index_steps(game, discount)
    order = [listed for listed, _, _ in steps]
    at = order.index(state)
    _, index, table = steps[at]
    return (index, tuple(sorted(order[:at])), tuple(stopped(table, index)))


def stopped(table, amount):
    """Returns the gains by state of playing while inside and then stopping with the amount."""
    return [add(earned, multiply(factor, amount)) for earned, factor in table]


def judge_index(game, state, paper, discount):
    """Returns True if the paper is right for the state, otherwise False."""
    index, inside, table = paper
    size = len(game[0])
    if not are_states(inside, size) or len(table) != size:
        return False
    if table[state] != index or not bounds_gains(game, table, index, discount):
        return False
    earned, factor = excursion(game, state, inside, discount)
    return add(earned, multiply(factor, index)) == index


def are_states(inside, size):
    """Returns True if inside has states in ascending order without duplicates."""
    least = 0
    for state in inside:
        if state < least or state >= size:
            return False
        least = state + 1
    return True


def bounds_gains(game, table, index, discount):
    """Returns True if no entry of the table is less than stopping or than playing once."""
    for state in range(len(table)):
        if compare(table[state], index) < 0:
            return False
        if compare(table[state], played(game, state, table, discount)) < 0:
            return False
    return True
