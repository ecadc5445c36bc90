"""Tolls on each play of a game, and games of a company that nobody needs to play."""

from anycompany.building import scaled
from anycompany.companies import company_curve
from anycompany.games import steady_reward
from anycompany.knots import amount_with_excess, excess_of
from anycompany.profiles import game_curve, place_curves
from anycompany.ratio import compare, largest, subtract


def with_toll(place, toll):
    """Returns the place in which each play costs the toll."""
    game, state = place
    return (scaled(game, shift=subtract((0, 1), toll)), state)


def fair_toll(first, second, discount):
    """Returns the greatest toll with which the first place is never worse than the second one."""
    one, two = place_curves((first, second), discount)
    excesses = [excess_of(knot) for knot in one.knots + two.knots]
    leads = [subtract(amount_with_excess(two.knots, excess), amount_with_excess(one.knots, excess))
             for excess in excesses]
    # The least difference of the first amount minus the second one is the greatest lead, with the other sign.
    return steady_reward(subtract((0, 1), largest(leads)), discount)


def needless(company, position, discount):
    """Returns True if the position is needless, otherwise False."""
    others = company[:position] + company[position + 1:]
    first, _ = company_curve(others, discount).knots[0]
    return compare(game_curve(company[position], discount).top, first) <= 0
