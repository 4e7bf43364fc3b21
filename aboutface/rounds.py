"""Rounds: their signs and starts, the clock of a state, and the state at a clock.

In the first half of a round the eldest faces up and every standing comes by
once. The second half is the first one backwards with everybody turned about.
"""

from aboutface.beats import turned
from aboutface.books import are_faces, length_of
from aboutface.counts import round_length, standings_many
from aboutface.errors import OtherRound
from aboutface.tallies import ones, passed, rung_reached, running_sums, sum_before


def part_clock(book, rungs, faces):
    """Return the clock of the eldest climbers, as many as there are rungs, in the first half of their round."""
    part = book[: len(rungs)]
    return sum_before(part, ones(part), rungs, faces)


def flipped(book, face, rungs, faces):
    """Return the sign for the face of the next younger climber, or the face for the sign.

    A climber turns about at every beat of the older ones alone, so the sign is
    negated as often as their clock says.
    """
    return -face if part_clock(book, rungs, faces) % 2 == 1 else face


def facing_up(state):
    """Return the STATE, turned if needed, in which the eldest faces up; it is in the same round."""
    standing, faces = state
    return (standing, faces) if faces[0] == 1 else turned(state)


def first_half_state(book, signs, weights, number):
    """Return the STATE in the first half of the round whose STANDING counts for the time with this number.

    Every weight is 0 or 1: a STANDING counts if its weight is 1, and more than number of them do.
    """
    rungs = []
    faces = []
    rest = number
    rows = running_sums(book, weights)
    for climber, sign in enumerate([1, *signs]):
        face = flipped(book, sign, rungs, faces)
        length = length_of(book, rungs, climber)
        rung = rung_reached(rows[climber], length, face, rest)
        rest -= passed(rows[climber], length, rung, face)
        rungs.append(rung)
        faces.append(face)
    return tuple(rungs), tuple(faces)


def signs_of(book, state):
    """Return the SIGNS of the round of a STATE."""
    standing, faces = facing_up(state)
    return tuple([flipped(book, faces[climber], standing[:climber], faces) for climber in range(1, len(book))])


def start(book, signs):
    """Return the start of the round with these SIGNS."""
    return first_half_state(book, signs, ones(book), 0)


def is_signs(book, value):
    """Tell whether value is a tuple of n - 1 integers 1 or -1."""
    return are_faces(value, len(book) - 1)


def faces_at(book, signs, standing):
    """Return the FACES in this round when the STANDING comes by and the eldest faces up."""
    faces = []
    for climber, sign in enumerate([1, *signs]):
        faces.append(flipped(book, sign, standing[:climber], faces))
    return tuple(faces)


def clock(book, state):
    """Return the number of beats, from 0 to 2 * N - 1, from the start of the round to the STATE."""
    standing, faces = facing_up(state)
    number = part_clock(book, standing, faces)
    return number if state[1][0] == 1 else round_length(book) - 1 - number


def state_at(book, signs, number):
    """Return the STATE that is reached from the start of the round after number beats."""
    many = standings_many(book)
    rest = number % (2 * many)
    if rest < many:
        return first_half_state(book, signs, ones(book), rest)
    return turned(first_half_state(book, signs, ones(book), 2 * many - 1 - rest))


def after(book, state, many):
    """Return the STATE after many beats, backwards if many is negative."""
    return state_at(book, signs_of(book, state), clock(book, state) + many)


def distance(book, one, other):
    """Return the least number of beats, from 0, that lead from one STATE to the other."""
    for at, (sign, wanted) in enumerate(zip(signs_of(book, one), signs_of(book, other))):
        if sign != wanted:
            raise OtherRound(at + 1)
    return (clock(book, other) - clock(book, one)) % round_length(book)
