"""Plans for a company: whether they are right, what they gain and what each node costs."""

from anycompany.companies import games_of, moved, states_of, step_by
from anycompany.errors import BadPlan
from anycompany.indices import indices
from anycompany.outlook import Outlook
from anycompany.ratio import add, multiply, subtract, total


def check_plan(company, plan, *, stop=None):
    """Raises BadPlan with the path of the first wrong node in preorder, if there is one."""
    check_node(company, plan, stop, ())


def check_node(company, plan, stop, path):
    if is_wrong(company, plan, stop):
        raise BadPlan(path)
    below = branches(company, plan)
    for k in range(len(below)):
        _, after, later = below[k]
        check_node(after, later, stop, path + (k,))


def is_wrong(company, plan, stop):
    """Returns True if the node itself is wrong, whatever stands below it."""
    if plan[0] == "best":
        return False
    if plan[0] == "stop":
        return stop is None
    _, position, plans = plan
    if position < 0 or position >= len(company):
        return True
    game, state = company[position]
    return len(plans) != len(game[1][state])


def branches(company, plan):
    """Returns, for each target of a play, its probability, the company after the move and the plan from there on."""
    if plan[0] != "play":
        return []
    _, position, plans = plan
    game, state = company[position]
    row = game[1][state]
    return [(row[k][1], moved(company, position, row[k][0]), plans[k]) for k in range(len(row))]


def plan_gain(company, plan, discount, *, stop=None):
    """Returns the gain of the plan."""
    check_plan(company, plan, stop=stop)
    return gain_below(company, plan, Outlook(games_of(company), discount, stop))


def gain_below(company, plan, outlook):
    """Returns the gain of a right plan, counted from its root on."""
    if plan[0] == "best":
        return outlook.best(states_of(company))
    if plan[0] == "stop":
        return outlook.stop
    game, state = company[plan[1]]
    later = [multiply(probability, gain_below(after, below, outlook))
             for probability, after, below in branches(company, plan)]
    return add(game[0][state], multiply(outlook.discount, total(later)))


def plan_costs(company, plan, discount, *, stop=None):
    """Returns the tuple of the pairs (weight, cost) of all nodes in preorder."""
    check_plan(company, plan, stop=stop)
    return tuple(costs_below(company, plan, (1, 1), Outlook(games_of(company), discount, stop)))


def costs_below(company, plan, weight, outlook):
    """Returns the list of the pairs (weight, cost) of a right plan whose root has this weight."""
    pairs = [(weight, node_cost(company, plan, outlook))]
    for probability, after, below in branches(company, plan):
        later = multiply(weight, multiply(outlook.discount, probability))
        pairs.extend(costs_below(after, below, later, outlook))
    return pairs


def node_cost(company, plan, outlook):
    if plan[0] == "best":
        return (0, 1)
    states = states_of(company)
    if plan[0] == "stop":
        return subtract(outlook.best(states), outlook.stop)
    return outlook.cost(states, plan[1])


def plan_loss(company, plan, discount, *, stop=None):
    """Returns the loss of the plan: the best gain minus its gain."""
    check_plan(company, plan, stop=stop)
    outlook = Outlook(games_of(company), discount, stop)
    return subtract(outlook.best(states_of(company)), gain_below(company, plan, outlook))


def best_plan(company, depth, discount, *, stop=None):
    """Returns the plan that takes the best step at each node of a depth less than the given one."""
    indexes = [indices(game, discount) for game, _ in company]
    return best_below(company, depth, indexes, stop)


def best_below(company, depth, indexes, stop):
    """Returns the best plan of this depth, when the states of the games have these indexes."""
    if depth == 0:
        return ("best",)
    position = step_by([indexes[k][company[k][1]] for k in range(len(company))], stop)
    if position is None:
        return ("stop",)
    game, state = company[position]
    plans = [best_below(moved(company, position, target), depth - 1, indexes, stop) for target, _ in game[1][state]]
    return ("play", position, tuple(plans))
