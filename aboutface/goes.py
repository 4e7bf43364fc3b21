"""Who goes when: how often a climber goes and turns about, and when next.

The eldest climbers, seen alone, make a beat of their own, here called a step,
whenever one of them goes or everybody turns about. A climber turns about at
every step of the older ones. Taken together with the older ones, the climber
makes these steps and, in addition, goes.
"""

from aboutface.beats import blocked
from aboutface.books import check_climber, lengths
from aboutface.counts import goes_in_round, round_length, standings_many
from aboutface.rounds import after, clock, signs_of, state_at
from aboutface.tallies import ones, passed, running_sums
from aboutface.wishes import counted_at


def steps_from_start(book, signs, older, number):
    """Return how many steps the eldest climbers, as many as older says, make in number beats from the start."""
    if older == 0:
        # Nobody is there to go, so what is left is that everybody turns about: at the end of each half round.
        return number // standings_many(book)
    eldest = book[:older]
    standing, faces = state_at(book, signs, number)
    times = number // round_length(book)
    return times * round_length(eldest) + clock(eldest, (standing[:older], faces[:older]))


def steps_between(book, state, older, many):
    """Return how many steps the eldest climbers, as many as older says from 0, make in the next many beats."""
    signs = signs_of(book, state)
    first = clock(book, state)
    return steps_from_start(book, signs, older, first + many) - steps_from_start(book, signs, older, first)


def beats_to_step(book, state, older):
    """Return the least number of beats after which the eldest climbers make a step at the very next beat."""
    if older == len(book):
        return 0
    standing, faces = state
    ladders = lengths(book, standing)
    rows = running_sums(book, ones(book))
    # The others go through all ways in which they can stand, and stay at the last one for the step.
    behind = [
        passed(rows[climber], ladders[climber], standing[climber], faces[climber])
        for climber in range(older, len(book))
    ]
    return rows[older][ladders[older]] - 1 - sum(behind)


def long_ladder_weights(book, climber):
    """Return WEIGHTS by which a STANDING counts once if the climber's ladder then has two rungs or more."""
    weights = ones(book)
    if climber > 0:
        weights[climber - 1] = [1 if length > 1 else 0 for length in book[climber]]
    return weights


def goes_many(book, state, climber, many):
    """Return how often the climber goes in the next many beats."""
    check_climber(book, climber)
    return steps_between(book, state, climber + 1, many) - steps_between(book, state, climber, many)


def turns_many(book, state, climber, many):
    """Return how often the climber turns about in the next many beats."""
    check_climber(book, climber)
    return steps_between(book, state, climber, many)


def next_go(book, state, climber):
    """Return the least number of beats after which the climber goes at the next one, None if that never is."""
    check_climber(book, climber)
    if goes_in_round(book, climber) == 0:
        return None
    if climber not in blocked(book, state):
        return beats_to_step(book, state, climber + 1)
    waited = beats_to_step(book, state, climber) + 1
    # Having turned about, the climber is blocked again as long as the ladder has only one rung.
    waited += counted_at(book, after(book, state, waited), long_ladder_weights(book, climber), 0)
    return waited + beats_to_step(book, after(book, state, waited), climber + 1)


def next_turn(book, state, climber):
    """Return the least number of beats after which the climber turns about at the very next beat."""
    check_climber(book, climber)
    return beats_to_step(book, state, climber)
