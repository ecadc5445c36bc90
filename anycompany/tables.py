"""Tables with the best gain from each joint state on, and a check of such tables."""

from anycompany.outlook import Outlook, all_plays
from anycompany.ratio import largest


def joint_states(games):
    """Returns the tuple of the joint states of the games, in ascending order."""
    found = [()]
    for rewards, _ in games:
        found = [states + (state,) for states in found for state in range(len(rewards))]
    return tuple(found)


def value_table(games, discount, *, stop=None):
    """Returns the right value table of the games."""
    outlook = Outlook(games, discount, stop)
    return tuple([outlook.best(states) for states in joint_states(games)])


def first_misfit(games, table, discount, *, stop=None):
    """Returns the first joint state whose entry is not the greatest candidate, or None if there is none."""
    gains = by_states(games, table)
    for states in joint_states(games):
        candidates = all_plays(games, states, gains, discount)
        if stop is not None:
            candidates.append(stop)
        if gains[states] != largest(candidates):
            return states
    return None


def by_states(games, entries):
    """Returns the dict of the entries of a table by joint state."""
    found = joint_states(games)
    return {found[k]: entries[k] for k in range(len(found))}
