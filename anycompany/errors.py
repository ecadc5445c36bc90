"""All errors that the program raises."""


def written(value):
    """Returns the text of a value, or other words if Python cannot write it."""
    # For an integer of some thousand digits Python raises an error, in the place of the one that is due.
    try:
        return str(value)
    except ValueError:
        return "(too long to be written)"


class AnycompanyError(ValueError):
    """The base class of all errors that the program raises."""


class ZeroDenominator(AnycompanyError):
    """A ratio has the denominator zero, or is divided by zero."""


class NoStates(AnycompanyError):
    """A game has no states."""


class WrongLength(AnycompanyError):
    """A game has not as many rows as rewards."""


class NoKnots(AnycompanyError):
    """A curve has no knots."""


class SteepCurve(AnycompanyError):
    """A curve does not fit the discount."""


class ImpossibleRecord(AnycompanyError):
    """A record has no evidence, so it has no mean."""


class InvalidDiscount(AnycompanyError):
    """A discount is less than zero or not less than one."""


class ImpossibleOutcome(AnycompanyError):
    """A told target is not among the targets of the current state."""


class NothingToUndo(AnycompanyError):
    """There is no deed to take back."""


class BadTarget(AnycompanyError):
    """The row of a state has a target that is not a state."""

    def __init__(self, state):
        AnycompanyError.__init__(self, f"a target in the row of state {written(state)} is not a state")
        self.state = state


class NegativeProbability(AnycompanyError):
    """The row of a state has a probability that is less than zero."""

    def __init__(self, state):
        AnycompanyError.__init__(self, f"a probability in the row of state {written(state)} is less than zero")
        self.state = state


class BadTotal(AnycompanyError):
    """The probabilities in the row of a state do not have the sum one."""

    def __init__(self, state):
        AnycompanyError.__init__(self, f"the probabilities of state {written(state)} do not have the sum one")
        self.state = state


class BadState(AnycompanyError):
    """A number is not a state of the game."""

    def __init__(self, state):
        AnycompanyError.__init__(self, f"{written(state)} is not a state of the game")
        self.state = state


class BadKnot(AnycompanyError):
    """The knot at a position is wrong."""

    def __init__(self, position):
        AnycompanyError.__init__(self, f"the knot at position {written(position)} is wrong")
        self.position = position


class BadDeed(AnycompanyError):
    """The deed at a position of a row of deeds raises an error."""

    def __init__(self, position):
        AnycompanyError.__init__(self, f"the deed at position {written(position)} cannot be done")
        self.position = position


class BadPlan(AnycompanyError):
    """The node of a plan to which a path leads is wrong."""

    def __init__(self, path):
        AnycompanyError.__init__(self, f"the node at the path {written(path)} is wrong")
        self.path = path


class UnknownGame(AnycompanyError):
    """No game with a number is in the house."""

    def __init__(self, number):
        AnycompanyError.__init__(self, f"no game with the number {written(number)} is in the house")
        self.number = number


class BadLine(AnycompanyError):
    """A line of a text has none of the forms."""

    def __init__(self, line):
        AnycompanyError.__init__(self, f"line {written(line)} has none of the forms")
        self.line = line


class BadBook(AnycompanyError):
    """A line of a text breaks a rule of books."""

    def __init__(self, line):
        AnycompanyError.__init__(self, f"line {written(line)} breaks a rule of books")
        self.line = line
