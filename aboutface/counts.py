"""How many standings and rounds there are, and the numbers of standings."""

from aboutface.books import check_climber, length_of
from aboutface.errors import NoNumber
from aboutface.tallies import ones, passed, rung_reached, running_sums, sum_before


def standings_many(book):
    """Return the number N of STANDINGs."""
    rows = running_sums(book, ones(book))
    return rows[0][-1]


def round_length(book):
    """Return the number of beats in a round, 2 * N."""
    return 2 * standings_many(book)


def rounds_many(book):
    """Return the number of rounds, 2 for each climber but the eldest, multiplied."""
    many = 1
    for climber in range(1, len(book)):
        many *= 2
    return many


def standing_at(book, number):
    """Return the STANDING with this number."""
    if number < 0 or number >= standings_many(book):
        raise NoNumber(number)
    rungs = []
    rest = number
    # In ascending order everybody comes from rung 1, as with a face up.
    for climber, row in enumerate(running_sums(book, ones(book))):
        length = length_of(book, rungs, climber)
        rung = rung_reached(row, length, 1, rest)
        rest -= passed(row, length, rung, 1)
        rungs.append(rung)
    return tuple(rungs)


def standing_number(book, standing):
    """Return the number of a STANDING."""
    return sum_before(book, ones(book), standing, [1] * len(book))


def goes_in_round(book, climber):
    """Return how often a climber goes in a round of 2 * N beats."""
    check_climber(book, climber)
    # With this climber as the youngest, all beats are theirs except those of the
    # older ones alone; the eldest goes at all but the two at which everybody turns.
    older = round_length(book[:climber]) if climber > 0 else 2
    return round_length(book[: climber + 1]) - older
