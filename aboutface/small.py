"""Small rounds, which are gone through beat by beat, and the list of all rounds."""

from aboutface.beats import beats_along
from aboutface.counts import round_length, rounds_many
from aboutface.errors import TooMany
from aboutface.rounds import start

MOST = 2000


def check_many(many):
    """Raise TooMany if so many are not gone through."""
    if many > MOST:
        raise TooMany(many)


def all_signs(book):
    """Return the ascending list of the SIGNS of all rounds."""
    rows = [()]
    for climber in range(1, len(book)):
        rows = [(*row, sign) for row in rows for sign in (-1, 1)]
    return rows


def round_of(book, state):
    """Return the list of the STATEs of the round, from the given one on, in the order of the beats."""
    many = round_length(book)
    check_many(many)
    return beats_along(book, state, many - 1)


def all_rounds(book):
    """Return the list of the starts of all rounds, in ascending order of their SIGNS."""
    check_many(round_length(book))
    check_many(rounds_many(book))
    return [start(book, signs) for signs in all_signs(book)]
