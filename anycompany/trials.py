"""Trials whose odds are not known: the evidence of records, their means, and the game of further trials."""

from anycompany.building import staying
from anycompany.errors import ImpossibleRecord
from anycompany.ratio import divide, multiply, power, subtract, total


def evidence(hypotheses, successes, failures):
    """Returns the evidence of the record."""
    return total([multiply(weight, likelihood(odds, successes, failures)) for weight, odds in hypotheses])


def likelihood(odds, successes, failures):
    """Returns the probability of the successes and failures, in a given order, with these odds."""
    return multiply(power(odds, successes), power(subtract((1, 1), odds), failures))


def mean(hypotheses, successes, failures):
    """Returns the mean of the record, the probability that the next trial succeeds."""
    known = evidence(hypotheses, successes, failures)
    if known == (0, 1):
        raise ImpossibleRecord("the record is not possible, so it has no mean")
    return divide(evidence(hypotheses, successes + 1, failures), known)


def records(hypotheses, rounds):
    """Returns the tuple of the possible records with at most so many trials."""
    listed = [(successes, trials - successes) for trials in range(rounds + 1) for successes in range(trials + 1)]
    return tuple([record for record in listed if is_possible(hypotheses, record)])


def is_possible(hypotheses, record):
    successes, failures = record
    return evidence(hypotheses, successes, failures) != (0, 1)


def trial_game(hypotheses, rounds):
    """Returns the game with one state for each possible record with at most so many trials."""
    listed = records(hypotheses, rounds)
    states = {listed[k]: k for k in range(len(listed))}
    means = [mean(hypotheses, successes, failures) for successes, failures in listed]
    rows = [trial_row(listed[k], means[k], states, rounds) for k in range(len(listed))]
    return (tuple(means), tuple(rows))


def trial_row(record, chance, states, rounds):
    """Returns the moves of a record whose next trial succeeds with this chance."""
    successes, failures = record
    if successes + failures == rounds:
        return staying(states[record])
    # Among records of equal length the one with fewer successes is the lesser state.
    moves = [((successes, failures + 1), subtract((1, 1), chance)), ((successes + 1, failures), chance)]
    return tuple([(states[after], probability) for after, probability in moves if probability != (0, 1)])
