"""Sums of weights and rungs over all standings and over many beats."""

from aboutface.books import check_climber
from aboutface.counts import standings_many
from aboutface.rounds import clock, signs_of, state_at
from aboutface.tallies import ones, running_sums, sum_before


def rung_weights(book, climber):
    """Return WEIGHTS by which a STANDING weighs as much as the climber's rung says."""
    weights = ones(book)
    weights[climber] = list(range(1, max(book[climber]) + 1))
    return weights


def greatest_divisor(one, other):
    """Return the greatest common divisor of two integers, at least 1."""
    while other > 0:
        one, other = other, one % other
    return one


def first_half_sum(book, signs, weights, many):
    """Return the sum of the weights at the clocks 0 to many - 1, many from 0 to N."""
    if many == standings_many(book):
        return weight_all(book, weights)
    standing, faces = state_at(book, signs, many)
    return sum_before(book, weights, standing, faces)


def sum_from_start(book, signs, weights, many):
    """Return the sum of the weights after 0, 1, .., many - 1 beats from the start of the round."""
    half = standings_many(book)
    whole = 2 * weight_all(book, weights)
    times, rest = divmod(many, 2 * half)
    if rest <= half:
        return times * whole + first_half_sum(book, signs, weights, rest)
    # The second half is the first one backwards, so what is missing is the beginning of the first.
    return (times + 1) * whole - first_half_sum(book, signs, weights, 2 * half - rest)


def weight_all(book, weights):
    """Return the sum of the weights of all STANDINGs."""
    rows = running_sums(book, weights)
    return rows[0][-1]


def weight_sum(book, state, weights, many):
    """Return the sum of the weights of the STANDINGs after 0, 1, .., many - 1 beats."""
    signs = signs_of(book, state)
    first = clock(book, state)
    return sum_from_start(book, signs, weights, first + many) - sum_from_start(book, signs, weights, first)


def rung_sum(book, state, climber, many):
    """Return the sum of the climber's rungs after 0, 1, .., many - 1 beats."""
    check_climber(book, climber)
    return weight_sum(book, state, rung_weights(book, climber), many)


def mean_rung(book, climber):
    """Return the average rung of the climber over a round, as a pair in lowest terms."""
    check_climber(book, climber)
    total = weight_all(book, rung_weights(book, climber))
    many = standings_many(book)
    divisor = greatest_divisor(total, many)
    return total // divisor, many // divisor
