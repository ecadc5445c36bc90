"""Visits: how often, counted with the discount, each game is played in each of its states."""

from anycompany.companies import games_of, states_of
from anycompany.lifting import solve_rows
from anycompany.outlook import with_state
from anycompany.ratio import add, multiply, subtract, total
from anycompany.tables import joint_states


def pairs_of(company):
    """Returns the tuple of the pairs (position, state) of the company, in ascending order."""
    return tuple([(position, state) for position in range(len(company))
                  for state in range(len(company[position][0][0]))])


def choice_visits(company, choices, discount):
    """Returns the visits of a player who follows the table of choices from the states of the company on."""
    found = joint_states(games_of(company))
    visits = {pair: (0, 1) for pair in pairs_of(company)}
    stays = joint_visits(company, found, choices, discount)
    for k in range(len(found)):
        pair = (choices[k], found[k][choices[k]])
        visits[pair] = add(visits[pair], stays[k])
    return tuple([visits[pair] for pair in pairs_of(company)])


def joint_visits(company, found, choices, discount):
    """Returns the list of the visits of the joint states: the discounted numbers of steps in each of them."""
    columns = {found[k]: k for k in range(len(found))}
    # The visits of a joint state are the discounted ones of those from which it is reached,
    # and one more where the player starts.
    rows = [{k: (1, 1)} for k in range(len(found))]
    for k in range(len(found)):
        for target, probability in arrivals(company, found[k], choices[k]):
            row = rows[columns[target]]
            row[k] = subtract(row.get(k, (0, 1)), multiply(discount, probability))
    right = [(0, 1)] * len(found)
    right[columns[states_of(company)]] = (1, 1)
    return solve_rows(rows, right)


def arrivals(company, states, position):
    """Returns the list of the joint states after a play of the position, each with its probability."""
    game, _ = company[position]
    return [(with_state(states, position, target), probability) for target, probability in game[1][states[position]]]


def order_visits(company, order, discount):
    """Returns the visits of a player who follows the priority order."""
    places_in_order = {order[k]: k for k in range(len(order))}
    choices = [first_position(states, places_in_order) for states in joint_states(games_of(company))]
    return choice_visits(company, tuple(choices), discount)


def first_position(states, places_in_order):
    """Returns the position whose pair with its state comes first in the order."""
    return min([(places_in_order[(position, states[position])], position) for position in range(len(states))])[1]


def visits_gain(company, visits):
    """Returns the sum of the visits times the rewards."""
    rewards = [reward for game, _ in company for reward in game[0]]
    return total([multiply(visit, reward) for visit, reward in zip(visits, rewards)])
