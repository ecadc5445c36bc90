"""What games gain from each of their joint states on."""

from anycompany.curves import product_of
from anycompany.games import played
from anycompany.profiles import curve_by, index_tables
from anycompany.ratio import subtract


def gain_by(curve, stop):
    """Returns the best gain of a company with this curve."""
    if stop is None:
        return curve.floor
    return curve.value(stop)


def with_state(states, position, state):
    """Returns the joint state with the state at the position in the place of the one there."""
    return states[:position] + (state,) + states[position + 1:]


def play_by(games, states, position, gains, discount):
    """Returns the gain of playing the position once and then having the gain of the joint state."""
    game = games[position]
    state = states[position]
    after = {target: gains[with_state(states, position, target)] for target, _ in game[1][state]}
    return played(game, state, after, discount)


def all_plays(games, states, gains, discount):
    """Returns the list of what playing gains in the joint state, by position."""
    return [play_by(games, states, position, gains, discount) for position in range(len(games))]


class Outlook:
    """The best gains from the joint states of games on; each is worked out when it is asked first."""

    def __init__(self, games, discount, stop):
        self.games = games
        self.discount = discount
        self.stop = stop
        self.curves = curves_of(games, discount)
        self.gains = {}

    def best(self, states):
        """Returns the best gain from the joint state on."""
        if states not in self.gains:
            curves = [self.curves[k][states[k]] for k in range(len(states))]
            self.gains[states] = gain_by(product_of(curves), self.stop)
        return self.gains[states]

    def play(self, states, position):
        """Returns the play value of the position in the joint state."""
        game = self.games[position]
        for target, _ in game[1][states[position]]:
            self.best(with_state(states, position, target))
        return play_by(self.games, states, position, self.gains, self.discount)

    def cost(self, states, position):
        """Returns the cost of the position in the joint state."""
        return subtract(self.best(states), self.play(states, position))


def curves_of(games, discount):
    """Returns, for each of the games, the list of the curves of its states."""
    known = {}
    for game in games:
        if game not in known:
            known[game] = state_curves(game, discount)
    return [known[game] for game in games]


def state_curves(game, discount):
    """Returns the list of the curves of the states of a game."""
    rewards, _ = game
    tables = index_tables(game, discount)
    return [curve_by(tables, state) for state in range(len(rewards))]
