"""The region of all visits: its rules, what breaks them, and mixtures of priority orders."""

from anycompany.games import steady_worth
from anycompany.leaving import excursion_by, leave_table
from anycompany.ratio import add, compare, divide, multiply, subtract, total
from anycompany.visits import order_visits, pairs_of


def rule(company, chosen, discount):
    """Returns the pair (coefficients, side) of the rule of the set chosen."""
    coefficients = ()
    side = (1, 1)
    for position in range(len(company)):
        states = [state for at, state in chosen if at == position]
        own, factor = place_rule(company[position], states, discount)
        coefficients = coefficients + own
        side = multiply(side, factor)
    return (coefficients, side)


def place_rule(place, chosen, discount):
    """Returns the coefficients of the states of a place and its factor of the side, when these states are chosen."""
    game, state = place
    size = len(game[0])
    rest = tuple([other for other in range(size) if other not in chosen])
    table = leave_table(game, rest, discount)
    coefficients = [(0, 1)] * size
    for member in chosen:
        _, factor = excursion_by(game, member, table, discount)
        coefficients[member] = subtract((1, 1), factor)
    return (tuple(coefficients), table[state][1])


def all_rules(company, discount):
    """Returns the list of the rows (chosen, coefficients, side) of all sets of pairs."""
    rules = [((), (), (1, 1))]
    for position in range(len(company)):
        rows = place_rules(company, position, discount)
        rules = [(chosen + more, coefficients + own, multiply(side, factor))
                 for chosen, coefficients, side in rules for more, own, factor in rows]
    return rules


def place_rules(company, position, discount):
    """Returns, for all sets of states of one position, their pairs and what they bring to a rule."""
    sets = [()]
    for state in range(len(company[position][0][0])):
        sets = sets + [chosen + (state,) for chosen in sets]
    rows = []
    for chosen in sets:
        own, factor = place_rule(company[position], chosen, discount)
        rows.append((tuple([(position, state) for state in chosen]), own, factor))
    return rows


def spare(coefficients, side, visits):
    """Returns by how much the visits are above the side of a rule."""
    return subtract(total([multiply(c, visit) for c, visit in zip(coefficients, visits)]), side)


def broken_set(company, visits, discount):
    """Returns a set of pairs that is broken by the visits, or None if there is none."""
    return first_broken(company, visits, discount, all_rules(company, discount))


def first_broken(company, visits, discount, rules):
    """Returns the first set of the rules that is broken by the visits, or None if there is none."""
    for chosen, coefficients, side in rules:
        if compare(spare(coefficients, side, visits), (0, 1)) < 0:
            return chosen
    if total(visits) != steady_worth((1, 1), discount):
        return pairs_of(company)
    return None


def mixture(company, visits, discount):
    """Returns a mixture with these visits, or None if no policy has them."""
    rules = all_rules(company, discount)
    if first_broken(company, visits, discount, rules) is not None:
        return None
    parts = []
    weight = (1, 1)
    point = visits
    while True:
        order = tight_order(pairs_of(company), tight_sets(rules, point))
        corner = order_visits(company, order, discount)
        if corner == point:
            parts.append((weight, order))
            return tuple(parts)
        # The point lies between this corner and the last point of the region behind it.
        reach = reach_behind(rules, corner, point)
        later = divide(weight, reach)
        parts.append((subtract(weight, later), order))
        weight = later
        point = point_behind(corner, point, reach)


def tight_sets(rules, point):
    """Returns the list of the sets whose rule the point keeps with nothing to spare."""
    return [chosen for chosen, coefficients, side in rules if spare(coefficients, side, point) == (0, 1)]


def tight_order(pairs, tight):
    """Returns an order whose visits keep the rules of all tight sets with nothing to spare.

    A rule is kept so exactly if no pair of its set is played while a pair outside of the set could be.
    Intersections and unions of tight sets are therefore tight as well. The order goes down a chain of
    tight sets that has no gap for another one; with it all tight sets are kept so, not only the chain.
    """
    inside = ()
    order = ()
    while len(inside) < len(pairs):
        inside = next_set(inside, tight)
        order = tuple([pair for pair in inside if pair not in order]) + order
    return order


def next_set(inside, tight):
    """Returns a smallest tight set that has all pairs of inside and at least one more."""
    larger = [chosen for chosen in tight
              if len(chosen) > len(inside) and all([pair in chosen for pair in inside])]
    return min([(len(chosen), chosen) for chosen in larger])[1]


def reach_behind(rules, corner, point):
    """Returns the greatest factor by which the way from the corner to the point can be lengthened in the region."""
    reach = None
    for _, coefficients, side in rules:
        start = spare(coefficients, side, corner)
        fall = subtract(start, spare(coefficients, side, point))
        if compare(fall, (0, 1)) > 0:
            longest = divide(start, fall)
            if reach is None or compare(longest, reach) < 0:
                reach = longest
    return reach


def point_behind(corner, point, reach):
    """Returns the end of the way from the corner to the point after it is lengthened by the factor."""
    return tuple([add(low, multiply(reach, subtract(high, low))) for low, high in zip(corner, point)])
