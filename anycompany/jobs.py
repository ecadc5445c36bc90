"""Jobs: work that pays once, in its last step, and may take longer than hoped."""

from anycompany.building import staying
from anycompany.leaving import excursion
from anycompany.linear import whole_row
from anycompany.ratio import add, divide, largest, multiply, power, subtract, total


def job_game(reward, lengths):
    """Returns the game of the job."""
    longest = lengths[-1][0]
    chances = [finishing_chance(lengths, age) for age in range(longest)]
    rewards = [multiply(chance, reward) for chance in chances]
    rows = [job_row(age, longest, chances[age]) for age in range(longest)]
    return (tuple(rewards + [(0, 1)]), tuple(rows + [staying(longest)]))


def job_row(age, last, chance):
    """Returns the moves of an age at which the job is finished with this chance."""
    # At the greatest age the job is surely finished, so no target stands here twice.
    moves = [(age + 1, subtract((1, 1), chance)), (last, chance)]
    return tuple([(target, probability) for target, probability in moves if probability != (0, 1)])


def finishing_chance(lengths, age):
    """Returns the probability that a job that is not finished at this age takes just one step more."""
    finishing = total([probability for length, probability in lengths if length == age + 1])
    return divide(finishing, total([probability for length, probability in lengths if length > age]))


def spell(reward, lengths, age, to, discount):
    """Returns the pair (earned, factor) of working from the age until the job is finished or has the age to."""
    return spell_of(job_game(reward, lengths), age, to, discount)


def spell_of(game, age, to, discount):
    """Returns the spell of the job with this game."""
    return excursion(game, age, tuple(range(age, to)), discount)


def job_index(reward, lengths, age, discount):
    """Returns the index of the state age of the job's game."""
    game = job_game(reward, lengths)
    longest = lengths[-1][0]
    pairs = [spell_of(game, age, to, discount) for to in range(age + 1, longest + 1)]
    return largest([divide(earned, subtract((1, 1), factor)) for earned, factor in pairs])


def order_gain(jobs, order, discount):
    """Returns the gain of the order of sure jobs."""
    gain = (0, 1)
    steps = 0
    for position in order:
        reward, length = jobs[position]
        steps += length
        gain = add(gain, multiply(reward, power(discount, steps - 1)))
    return gain


def order_by_index(jobs, discount):
    """Returns the order by index of the sure jobs, a tuple of positions."""
    amounts = whole_row([sure_index(reward, length, discount) for reward, length in jobs])
    return tuple([position for _, position in sorted([(-amounts[k], k) for k in range(len(amounts))])])


def sure_index(reward, length, discount):
    """Returns the index of a sure job that is not begun."""
    # Nothing is paid before the last step, so no shorter spell is better than the whole job.
    return divide(multiply(reward, power(discount, length - 1)), subtract((1, 1), power(discount, length)))
