"""Books, values and small helpers that several tests use."""

import functools
import itertools

from aboutface.beats import beat, mover

DUO = ((2,), (1, 3))
TRIO = ((3,), (2, 1, 2), (1, 2))
LOW = ((1, 1), (1, 1))
HIGH = ((2, 3), (1, -1))

# Nothing here is a BOOK, a STANDING or a STATE of any book.
ODD_VALUES = (
    None, True, False, 0, 1, -1, 7, 10 ** 100, "", "2", "((2,),)", "ab",
    [], (), [[]], ((),), ([],), (None,), (True,), (False,), ("1",), ("",),
    ((True,),), ((None,),), (("1",),), ((0,),), ((-1,),), ([1],), [(1,)], [[1]],
    (((1,),),), (((((((1,),),),),),),), [[[[[[[[1]]]]]]]],
)

ALONE = ((4,),)
ONE_RUNG = ((1,), (1,), (1,))

# Books at the limits of [3]: 20 climbers, ladders of at most 12 rungs.
WIDE = ((12,),) + ((12,) * 12,) * 19
UNEVEN = ((12,),) + tuple(
    tuple(12 if rung == 5 else 1 + (7 * rung * rung + 3 * climber * rung + climber) % 12 for rung in range(12))
    for climber in range(19)
)
ODD_LADDERS = ((11,),) + tuple((3, 11, 7, 1, 9, 5, 11, 3, 1, 7, 11) for climber in range(19))
FLAT = ((1,),) * 20
BIG_BOOKS = (WIDE, UNEVEN, ODD_LADDERS)


def as_lists(value):
    """Copy value with lists in place of all tuples."""
    if isinstance(value, tuple):
        return [as_lists(item) for item in value]
    return value


def mixed(value, level=0):
    """Copy value with lists in place of every second tuple, so that both stand side by side."""
    if not isinstance(value, tuple):
        return value
    items = [mixed(item, level + at) for at, item in enumerate(value)]
    return tuple(items) if level % 2 else items


def books_up_to(climbers, rungs):
    """All books of at most so many climbers and ladders of at most so many rungs."""
    grown = [((first,),) for first in range(1, rungs + 1)]
    books = list(grown)
    for turn in range(climbers - 1):
        grown = [
            book + (table,)
            for book in grown
            for table in itertools.product(range(1, rungs + 1), repeat=max(book[-1]))
        ]
        books += grown
    return books


def standings_of(book):
    """All standings of a book, by growing them from the eldest climber on."""
    standings = [(rung,) for rung in range(1, book[0][0] + 1)]
    for table in book[1:]:
        standings = [
            standing + (rung,)
            for standing in standings
            for rung in range(1, table[standing[-1] - 1] + 1)
        ]
    return standings


def states_of(book):
    """All states of a book."""
    return [
        (standing, faces)
        for standing in standings_of(book)
        for faces in itertools.product((1, -1), repeat=len(book))
    ]


SMALL_BOOKS = books_up_to(4, 2) + books_up_to(2, 3) + [
    ((5,),), DUO, TRIO, ALONE,
    ((3,), (3, 1, 2), (2, 1, 3)),
    ((2,), (3, 1), (1, 4, 2)),
    ((3,), (1, 1, 1), (3,)),
    ((2,), (3, 2), (1, 3, 2), (2, 1, 3)),
    ((3,), (2, 3, 1), (1, 2, 1), (3, 1)),
    ((1,), (3,), (1, 2, 3), (2, 1, 2)),
]


def turns_to_start(book, state):
    """Tell, by the words of [7], whether everybody turns at the next beat and the eldest then faces up."""
    return mover(book, state) is None and state[1][0] == -1


@functools.lru_cache(maxsize=None)
def rounds_by_beats(book):
    """All rounds of a book, each a tuple of its states from the start on, found by going through them."""
    found = []
    for state in states_of(book):
        if turns_to_start(book, state):
            states = [beat(book, state)]
            while states[-1] != state:
                states.append(beat(book, states[-1]))
            found.append(tuple(states))
    return tuple(found)


def some_weights(book, shift=0):
    """Weights of all kinds: positive ones, negative ones and 0."""
    return tuple(
        tuple((5 * climber * rung + 3 * rung * rung + climber + shift) % 9 - 4 for rung in range(max(table)))
        for climber, table in enumerate(book)
    )


def ones_and_rungs(book, climber):
    """Weights whose product is the climber's rung."""
    return tuple(
        tuple(rung if at == climber else 1 for rung in range(1, max(table) + 1)) for at, table in enumerate(book)
    )


def weigh(weights, standing):
    """The weight of a standing by the words of [10]."""
    product = 1
    for climber, rung in enumerate(standing):
        product *= weights[climber][rung - 1]
    return product


def weighed_from_the_eldest(book, weights):
    """The sum of the weights of all standings, from the eldest climber to the youngest."""
    sums = {rung: weights[0][rung - 1] for rung in range(1, book[0][0] + 1)}
    for climber in range(1, len(book)):
        grown = {}
        for older, total in sums.items():
            for rung in range(1, book[climber][older - 1] + 1):
                grown[rung] = grown.get(rung, 0) + total * weights[climber][rung - 1]
        sums = grown
    return sum(sums.values())


# Small books of every kind, few enough for tests that go through much for each state.
CHOSEN_BOOKS = books_up_to(3, 2) + [
    ((3,), (1, 3, 1)), ((3,), (1, 1, 3)), ((5,),), DUO, TRIO, ALONE, ONE_RUNG,
    ((3,), (3, 1, 2), (2, 1, 3)),
    ((3,), (1, 1, 1), (3,)),
    ((3,), (1, 1, 2), (1, 3), (1, 1, 2)),
    ((1,), (3,), (1, 2, 3), (2, 1, 2)),
    ((2,), (2, 1), (1, 1), (2,)),
]

# Each of these ladders has two rungs or more only while the older climber is on the last rung.
LATE = ((12,),) + ((1,) * 11 + (12,),) * 19


def starts_and_rounds(book):
    """The rounds of a book as in rounds_by_beats, each with the climbers who go at its beats."""
    return [(states, [mover(book, state) for state in states]) for states in rounds_by_beats(book)]


def count_along(items, first, many):
    """How many of many items from the first on, around and around, are true."""
    times, rest = divmod(many, len(items))
    return times * sum(map(bool, items)) + sum(bool(items[(first + at) % len(items)]) for at in range(rest))


def next_along(items, first):
    """How many items before the next true one, from the first on, around and around; None if there is none."""
    for at in range(len(items)):
        if items[(first + at) % len(items)]:
            return at
    return None
