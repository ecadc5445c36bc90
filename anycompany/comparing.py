"""Comparing places: whether one can stand in the place of another one, whatever other games are there."""

from anycompany.companies import company_curve
from anycompany.games import steady_reward
from anycompany.profiles import game_curve, place_curves, standard_game
from anycompany.ratio import largest


def never_worse(first, second, discount):
    """Returns True if the first place is never worse than the second one, otherwise False."""
    one, two = place_curves((first, second), discount)
    return one.never_below(two)


def alike(first, second, discount):
    """Returns True if the places are alike, otherwise False."""
    one, two = place_curves((first, second), discount)
    return one.knots == two.knots


def relation(first, second, discount):
    """Returns "alike", "better", "worse" or "apart", as the first place is to the second one."""
    one, two = place_curves((first, second), discount)
    if one.knots == two.knots:
        return "alike"
    if one.never_below(two):
        return "better"
    if two.never_below(one):
        return "worse"
    return "apart"


def shortlist(places, discount):
    """Returns the tuple of the positions whose place is not outdone by another one."""
    curves = place_curves(places, discount)
    return tuple([position for position in range(len(curves)) if not is_outdone(curves, position)])


def is_outdone(curves, position):
    """Returns True if another curve is better, or alike at a lesser position."""
    own = curves[position]
    for k in range(len(curves)):
        if k != position and curves[k].never_below(own):
            if k < position or curves[k].knots != own.knots:
                return True
    return False


def greatest_loss(first, second, discount):
    """Returns the pair (loss, amount) of the first place against the second one."""
    one, two = place_curves((first, second), discount)
    return one.lack(two)


def parting_reward(first, second, discount):
    """Returns the reward of the steady game beside which the loss is the greatest one, or None without a loss."""
    _, amount = greatest_loss(first, second, discount)
    if amount is None:
        return None
    return steady_reward(amount, discount)


def distance(first, second, discount):
    """Returns the greater of the losses of each place against the other one."""
    one, two = place_curves((first, second), discount)
    return largest([one.lack(two)[0], two.lack(one)[0]])


def joined(first, second, discount):
    """Returns the join of two places."""
    curve = game_curve(first, discount) | game_curve(second, discount)
    return (standard_game(curve, discount), 0)


def met(first, second, discount):
    """Returns the meet of two places."""
    curve = game_curve(first, discount) & game_curve(second, discount)
    return (standard_game(curve, discount), 0)


def single(company, discount):
    """Returns the place that can stand in the place of the whole company."""
    return (standard_game(company_curve(company, discount), discount), 0)
