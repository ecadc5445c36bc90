"""A house: a company whose games come and go, step by step."""

from anycompany.errors import AnycompanyError, BadDeed, ImpossibleOutcome, NothingToUndo, UnknownGame
from anycompany.games import check_discount, make_place, steady_worth
from anycompany.prospects import Prospects, place_of, with_move
from anycompany.ratio import add, compare, multiply, power


class House:
    """A company with an idle game beside the games that have entered and not left."""

    def __init__(self, discount, *, idle=(0, 1)):
        check_discount(discount)
        self._prospects = Prospects(discount, idle)
        # The first moment, and one more after each deed; prospects.py tells what a moment is.
        self._moments = [(0, 0, ())]
        # For each deed the number of the played game, 0 for the idle game, None if nothing was played.
        self._played = []
        # The sums (changed, earned, lost, luck) at each moment, as far as a ledger has been asked for.
        self._sums = [((0, 1), (0, 1), (0, 1), (0, 1))]

    def enter(self, game, state):
        """Brings in a game in a state and returns its number."""
        place = make_place(game, state)
        clock, last, inside = self._moments[-1]
        number = last + 1
        self._go_on(None, (clock, number, inside + ((number, place),)))
        return number

    def leave(self, number):
        """Takes the game with the number out."""
        self._place(number)
        clock, last, inside = self._moments[-1]
        self._go_on(None, (clock, last, tuple([row for row in inside if row[0] != number])))

    def play(self, number, target):
        """Plays the game with the number, which moves to the target, and returns the reward."""
        game, state = self._place(number)
        if target not in [known for known, _ in game[1][state]]:
            raise ImpossibleOutcome("the game cannot move to this target")
        clock, last, inside = self._moments[-1]
        self._go_on(number, (clock + 1, last, with_move(inside, number, target)))
        return game[0][state]

    def rest(self):
        """Plays the idle game and returns the idle reward."""
        clock, last, inside = self._moments[-1]
        self._go_on(0, (clock + 1, last, inside))
        return self._prospects.idle

    def undo(self):
        """Takes back the last deed that is not taken back yet."""
        if len(self._played) == 0:
            raise NothingToUndo("there is no deed to take back")
        self._go_back(len(self._played) - 1)

    def perform(self, deeds):
        """Performs the deeds in order, all or not at all, and returns the tuple of their results."""
        before = len(self._played)
        results = []
        for deed in deeds:
            try:
                results.append(self._do(deed))
            except AnycompanyError:
                self._go_back(before)
                raise BadDeed(len(results))
        return tuple(results)

    @property
    def clock(self):
        """The number of plays and rests so far that are not taken back."""
        return self._moments[-1][0]

    def places(self):
        """Returns the tuple of the pairs (number, place) of the games inside, by number."""
        return self._moments[-1][2]

    def best_gain(self):
        """Returns the best gain of the games inside and the idle game, counted from now."""
        return self._prospects.gain(self._moments[-1][2])

    def advice(self):
        """Returns the number of the game to play next, or 0 for the idle game."""
        best = steady_worth(self._prospects.idle, self._prospects.discount)
        advised = 0
        for number, place in self._moments[-1][2]:
            index = self._prospects.curve_of(place).top
            order = compare(index, best)
            # A game that is as good as the idle game goes before it, but not before an earlier game.
            if order > 0 or (order == 0 and advised == 0):
                best = index
                advised = number
        return advised

    def ledger(self):
        """Returns the ledger, the tuple (opened, changed, earned, lost, luck, ahead)."""
        while len(self._sums) <= len(self._played):
            k = len(self._sums) - 1
            parts = self._prospects.parts(self._moments[k], self._played[k], self._moments[k + 1])
            self._sums.append(tuple([add(known, part) for known, part in zip(self._sums[k], parts)]))
        discount = self._prospects.discount
        opened = steady_worth(self._prospects.idle, discount)
        ahead = multiply(power(discount, self._moments[-1][0]), self.best_gain())
        return (opened,) + self._sums[-1] + (ahead,)

    def _place(self, number):
        place = place_of(self._moments[-1][2], number)
        if place is None:
            raise UnknownGame(number)
        return place

    def _do(self, deed):
        if deed[0] == "enter":
            return self.enter(deed[1], deed[2])
        if deed[0] == "leave":
            return self.leave(deed[1])
        if deed[0] == "play":
            return self.play(deed[1], deed[2])
        return self.rest()

    def _go_on(self, played, moment):
        self._played.append(played)
        self._moments.append(moment)

    def _go_back(self, count):
        """Takes back all deeds but the first count."""
        self._played = self._played[:count]
        self._moments = self._moments[:count + 1]
        self._sums = self._sums[:count + 1]
