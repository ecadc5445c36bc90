"""Tables of choices: what they gain, what they lose, and better ones."""

from anycompany.lifting import solve_rows
from anycompany.outlook import all_plays, play_by, with_state
from anycompany.ratio import largest, multiply, subtract
from anycompany.tables import by_states, joint_states, value_table


def choice_values(games, choices, discount):
    """Returns the tuple of the values of the choices."""
    found = joint_states(games)
    columns = {found[k]: k for k in range(len(found))}
    rows = [equation_row(games, found[k], choices[k], columns, discount) for k in range(len(found))]
    rewards = [reward_of(games, found[k], choices[k]) for k in range(len(found))]
    # The discount is less than one, so the equations have just one solution.
    return tuple(solve_rows(rows, rewards))


def reward_of(games, states, position):
    rewards, _ = games[position]
    return rewards[states[position]]


def equation_row(games, states, position, columns, discount):
    """Returns the coefficients, by column, of the equation of a joint state in which the position is played."""
    row = {columns[states]: (1, 1)}
    for target, probability in games[position][1][states[position]]:
        column = columns[with_state(states, position, target)]
        row[column] = subtract(row.get(column, (0, 1)), multiply(discount, probability))
    return row


def improved(games, choices, discount):
    """Returns the table of choices after one improvement."""
    found = joint_states(games)
    gains = by_states(games, choice_values(games, choices, discount))
    return tuple([better(choices[k], all_plays(games, found[k], gains, discount)) for k in range(len(found))])


def better(position, amounts):
    """Returns the position if no other one has a greater amount, otherwise the first one with the greatest amount."""
    best = largest(amounts)
    if amounts[position] == best:
        return position
    return amounts.index(best)


def settled(games, choices, discount):
    """Returns the table of choices that repeated improvement comes to."""
    here = choices
    following = improved(games, here, discount)
    while following != here:
        here = following
        following = improved(games, here, discount)
    return here


def choice_costs(games, choices, discount):
    """Returns the tuple of the costs of the told positions."""
    found = joint_states(games)
    gains = by_states(games, value_table(games, discount))
    return tuple([subtract(gains[found[k]], play_by(games, found[k], choices[k], gains, discount))
                  for k in range(len(found))])


def choice_losses(games, choices, discount):
    """Returns the tuple of the losses: the best gains minus the values of the choices."""
    best = value_table(games, discount)
    values = choice_values(games, choices, discount)
    return tuple([subtract(best[k], values[k]) for k in range(len(best))])
