"""What a player earns until a game leaves a set of states, and how late that is."""

from anycompany.games import expected, played
from anycompany.linear import solve
from anycompany.ratio import add, multiply, subtract


def leave_values(game, inside, discount):
    """Returns the tuple of the pairs (earned, factor) of the states of inside, in their order."""
    rewards, moves = game
    columns = {inside[k]: k for k in range(len(inside))}
    matrix = tuple([equation_row(moves[state], columns, columns[state], discount) for state in inside])
    right = tuple([(rewards[state], leaving_weight(moves[state], columns, discount)) for state in inside])
    # The matrix has no dependency, because the discount is less than one.
    _, pairs = solve(matrix, right)
    return pairs


def equation_row(row, columns, own, discount):
    """Returns the coefficients of the equation of a state for the unknowns of the states inside."""
    result = [(0, 1)] * len(columns)
    result[own] = (1, 1)
    for target, probability in row:
        if target in columns:
            at = columns[target]
            result[at] = subtract(result[at], multiply(discount, probability))
    return tuple(result)


def leaving_weight(row, columns, discount):
    """Returns the discount times the probability that the move of the row leads outside."""
    outside = (0, 1)
    for target, probability in row:
        if target not in columns:
            outside = add(outside, probability)
    return multiply(discount, outside)


def excursion(game, state, inside, discount):
    """Returns the pair (earned, factor) of the excursion from the state."""
    return excursion_by(game, state, leave_table(game, inside, discount), discount)


def leave_table(game, inside, discount):
    """Returns the list of the leave values of all states, by state."""
    rewards, _ = game
    # A player who is outside has left: nothing more is earned, and the factor is one.
    table = [((0, 1), (1, 1))] * len(rewards)
    pairs = leave_values(game, inside, discount)
    for k in range(len(inside)):
        table[inside[k]] = pairs[k]
    return table


def excursion_by(game, state, table, discount):
    """Returns the pair of the excursion from the state, by the leave table of its inside."""
    earned = played(game, state, [pair[0] for pair in table], discount)
    later = expected(game[1][state], [pair[1] for pair in table])
    return (earned, multiply(discount, later))
