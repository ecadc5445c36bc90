"""Games that are built of rewards, outcomes and other games."""

from anycompany.ratio import add, multiply


def steady(reward):
    """Returns the game with one state that pays the reward at every play."""
    return ((reward,), (staying(0),))


def staying(state):
    """Returns the row of a state that stays where it is."""
    return ((state, (1, 1)),)


def throw(reward, outcomes):
    """Returns the game that pays the reward, and then one of the outcomes forever."""
    rewards = [reward]
    first = []
    rows = []
    for probability, outcome in outcomes:
        state = len(rewards)
        rewards.append(outcome)
        first.append((state, probability))
        rows.append(staying(state))
    return (tuple(rewards), tuple([tuple(first)] + rows))


def pay_row(rewards, back):
    """Returns the game that pays the rewards in order and then moves to the state back."""
    size = len(rewards)
    targets = [k + 1 for k in range(size - 1)] + [back]
    return (tuple(rewards), tuple([((target, (1, 1)),) for target in targets]))


def prelude(reward, parts):
    """Returns the game that pays the reward and then goes on as one of the parts."""
    rewards = [reward]
    first = []
    rows = []
    for probability, (game, state) in parts:
        # The states of a part follow all states that stand there already.
        offset = len(rewards)
        first.append((offset + state, probability))
        rewards.extend(game[0])
        rows.extend([moved_up(row, offset) for row in game[1]])
    return (tuple(rewards), tuple([tuple(first)] + rows))


def moved_up(row, offset):
    return tuple([(target + offset, probability) for target, probability in row])


def scaled(game, *, factor=(1, 1), shift=(0, 1)):
    """Returns the game with each reward multiplied by the factor and then raised by the shift."""
    rewards, moves = game
    return (tuple([add(multiply(reward, factor), shift) for reward in rewards]), moves)
