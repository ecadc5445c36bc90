"""The curve of a place, and the standard game that has a given curve."""

from anycompany.building import steady, throw
from anycompany.curves import Curve
from anycompany.errors import SteepCurve
from anycompany.games import steady_reward
from anycompany.indices import index_steps, indices, stopped
from anycompany.knots import bent
from anycompany.leaving import leave_table
from anycompany.ratio import compare, divide, subtract


def game_curve(place, discount):
    """Returns the curve of the place."""
    game, state = place
    return curve_by(index_tables(game, discount), state)


def place_curves(places, discount):
    """Returns the list of the curves of the places; each game is worked out once."""
    tables = {}
    for game, _ in places:
        if game not in tables:
            tables[game] = index_tables(game, discount)
    return [curve_by(tables[game], state) for game, state in places]


def index_tables(game, discount):
    """Returns the list of the pairs (index, stop table) for all indexes of the game, ascending."""
    pairs = []
    for _, index, table in index_steps(game, discount):
        if len(pairs) == 0 or pairs[-1][0] != index:
            pairs.append((index, stopped(table, index)))
    return pairs[::-1]


def curve_by(tables, state):
    """Returns the curve of the state of a game with these index tables."""
    # The slope can change at the indexes of the game only.
    return Curve(bent([(amount, table[state]) for amount, table in tables]))


def stop_table(game, amount, discount):
    """Returns the tuple of the best gains with the amount as the stop amount, by state."""
    indexes = indices(game, discount)
    inside = [state for state in range(len(indexes)) if compare(indexes[state], amount) > 0]
    return tuple(stopped(leave_table(game, tuple(inside), discount), amount))


def standard_game(curve, discount):
    """Returns the standard game of the curve."""
    if not curve.fits(discount):
        raise SteepCurve("a slope of the curve is greater than the discount")
    rewards = [steady_reward(amount, discount) for amount, _ in curve]
    if len(rewards) == 1:
        return steady(rewards[0])
    chances = outcome_chances(curve, discount)
    return throw(rewards[-1], tuple([(chances[k], rewards[k]) for k in range(len(chances))]))


def outcome_chances(curve, discount):
    """Returns the list of the probabilities of the outcomes of the standard game."""
    chances = []
    before = (0, 1)
    for amount, _ in curve.knots[:-1]:
        here = divide(curve.slope(amount), discount)
        chances.append(subtract(here, before))
        before = here
    if before != (1, 1):
        chances.append(subtract((1, 1), before))
    return chances
