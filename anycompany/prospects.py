"""The best gains of a house from moment to moment, and what each of its deeds adds to the ledger.

A moment of a house is a tuple (clock, last, inside): the clock, the number of the last game that
entered, and the tuple of the pairs (number, place) of the games inside, by number.
"""

from anycompany.building import steady
from anycompany.curves import product_of
from anycompany.games import expected
from anycompany.outlook import state_curves
from anycompany.ratio import add, multiply, power, subtract


class Prospects:
    """The best gains of any games beside one idle game; what is worked out once is kept."""

    def __init__(self, discount, idle):
        self.discount = discount
        self.idle = idle
        self.curves = {}
        self.products = {}

    def curve_of(self, place):
        """Returns the curve of the place."""
        game, state = place
        if game not in self.curves:
            self.curves[game] = state_curves(game, self.discount)
        return self.curves[game][state]

    def joint_curve(self, inside):
        """Returns the curve of the company of the games inside and the idle game."""
        places = tuple([place for _, place in inside])
        if places not in self.products:
            curves = [self.curve_of(place) for place in places + ((steady(self.idle), 0),)]
            self.products[places] = product_of(curves)
        return self.products[places]

    def gain(self, inside):
        """Returns the best gain of the games inside and the idle game."""
        return self.joint_curve(inside).floor

    def reward(self, inside, number):
        """Returns what a play of the game with the number pays; 0 is the number of the idle game."""
        if number == 0:
            return self.idle
        game, state = place_of(inside, number)
        return game[0][state]

    def expected_gain(self, inside, number):
        """Returns the expected best gain after a play of the game with the number; 0 is the idle game."""
        if number == 0:
            return self.gain(inside)
        game, state = place_of(inside, number)
        # All other games stay as they are, so their curves are multiplied once for all targets.
        others = self.joint_curve([row for row in inside if row[0] != number])
        gains = {target: (others * self.curve_of((game, target))).floor for target, _ in game[1][state]}
        return expected(game[1][state], gains)

    def parts(self, before, played, after):
        """Returns what a deed adds to (changed, earned, lost, luck).

        Before and after are the moments around the deed; played is the number of the game that it
        played, 0 for the idle game, or None if a game entered or left.
        """
        clock, _, inside = before
        weight = power(self.discount, clock)
        gain = self.gain(inside)
        later = self.gain(after[2])
        if played is None:
            return (multiply(weight, subtract(later, gain)), (0, 1), (0, 1), (0, 1))
        reward = self.reward(inside, played)
        hope = self.expected_gain(inside, played)
        cost = subtract(gain, add(reward, multiply(self.discount, hope)))
        luck = multiply(self.discount, subtract(later, hope))
        return ((0, 1), multiply(weight, reward), multiply(weight, cost), multiply(weight, luck))


def place_of(inside, number):
    """Returns the place of the game with the number, or None if there is none."""
    for own, place in inside:
        if own == number:
            return place
    return None


def with_move(inside, number, target):
    """Returns the games inside after the game with the number has moved to the target."""
    return tuple([(own, (place[0], target)) if own == number else (own, place) for own, place in inside])
