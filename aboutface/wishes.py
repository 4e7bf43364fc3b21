"""Wishes: how many standings meet one, how often it is met, and when."""

from aboutface.counts import round_length
from aboutface.rounds import clock, first_half_state, signs_of
from aboutface.sums import sum_from_start, weight_all, weight_sum


def wish_weights(book, wish):
    """Return WEIGHTS by which a STANDING counts once if it meets the WISH, and else not at all."""
    return [
        [1 if item is None or item == rung else 0 for rung in range(1, max(table) + 1)]
        for table, item in zip(book, wish)
    ]


def counted_clock(book, signs, weights, number):
    """Return the clock at which a STANDING counts for the time with this number, less than those of a round."""
    half = weight_all(book, weights)
    if number < half:
        return clock(book, first_half_state(book, signs, weights, number))
    # The second half is the first one backwards, so what counts last there counts first here.
    mirrored = clock(book, first_half_state(book, signs, weights, 2 * half - 1 - number))
    return round_length(book) - 1 - mirrored


def counted_at(book, state, weights, number):
    """Return after how many beats a STANDING counts for the time with this number, None if none ever counts.

    Every weight is 0 or 1: a STANDING counts if its weight is 1.
    """
    half = weight_all(book, weights)
    if half == 0:
        return None
    signs = signs_of(book, state)
    first = clock(book, state)
    times, rest = divmod(sum_from_start(book, signs, weights, first) + number, 2 * half)
    return times * round_length(book) + counted_clock(book, signs, weights, rest) - first


def met_many(book, wish):
    """Return how many STANDINGs meet the WISH."""
    return weight_all(book, wish_weights(book, wish))


def met_in(book, state, wish, many):
    """Return for how many of the numbers 0, 1, .., many - 1 the STANDING after so many beats meets the WISH."""
    return weight_sum(book, state, wish_weights(book, wish), many)


def met_at(book, state, wish, number):
    """Return after how many beats the WISH is met for the time with this number, None if it is never met."""
    return counted_at(book, state, wish_weights(book, wish), number)
