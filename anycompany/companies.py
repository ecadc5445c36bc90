"""Companies of places: the best gain, the best step and what another step costs."""

from anycompany.curves import product_of
from anycompany.indices import indices
from anycompany.outlook import Outlook, gain_by
from anycompany.profiles import place_curves
from anycompany.ratio import compare, largest


def company_curve(company, discount):
    """Returns the curve of the company."""
    return product_of(place_curves(company, discount))


def best_gain(company, discount, *, stop=None):
    """Returns the best gain of the company."""
    return gain_by(company_curve(company, discount), stop)


def best_step(company, discount, *, stop=None):
    """Returns the position of the best step, or None if the best step is to stop."""
    return step_by([indices(game, discount)[state] for game, state in company], stop)


def step_by(amounts, stop):
    """Returns the best step when the current states have these indexes."""
    best = largest(amounts)
    if stop is not None and compare(best, stop) <= 0:
        return None
    return amounts.index(best)


def moved(company, position, state):
    """Returns the company in which the game at the position stands in the state."""
    game, _ = company[position]
    return company[:position] + ((game, state),) + company[position + 1:]


def games_of(company):
    """Returns the tuple of the games of the places."""
    return tuple([game for game, _ in company])


def states_of(company):
    """Returns the tuple of the states of the places."""
    return tuple([state for _, state in company])


def play_value(company, position, discount, *, stop=None):
    """Returns the play value of the position."""
    return Outlook(games_of(company), discount, stop).play(states_of(company), position)


def step_cost(company, position, discount, *, stop=None):
    """Returns the cost of the position."""
    return Outlook(games_of(company), discount, stop).cost(states_of(company), position)
