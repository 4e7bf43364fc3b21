"""Books, values and small helpers that several tests use."""

import itertools

DUO = ((2,), (1, 3))
TRIO = ((3,), (2, 1, 2), (1, 2))
LOW = ((1, 1), (1, 1))
HIGH = ((2, 3), (1, -1))

# Nothing here is a BOOK, a STANDING or a STATE of any book.
ODD_VALUES = (
    None, True, False, 0, 1, -1, 7, 10 ** 100, "", "2", "((2,),)", "ab",
    [], (), [[]], ((),), ([],), (None,), (True,), (False,), ("1",), ("",),
    ((True,),), ((None,),), (("1",),), ((0,),), ((-1,),), ([1],), [(1,)], [[1]],
    (((1,),),), (((((((1,),),),),),),), [[[[[[[[1]]]]]]]],
)


def as_lists(value):
    """Copy value with lists in place of all tuples."""
    if isinstance(value, tuple):
        return [as_lists(item) for item in value]
    return value


def mixed(value, level=0):
    """Copy value with lists in place of every second tuple, so that both stand side by side."""
    if not isinstance(value, tuple):
        return value
    items = [mixed(item, level + at) for at, item in enumerate(value)]
    return tuple(items) if level % 2 else items


def books_up_to(climbers, rungs):
    """All books of at most so many climbers and ladders of at most so many rungs."""
    grown = [((first,),) for first in range(1, rungs + 1)]
    books = list(grown)
    for turn in range(climbers - 1):
        grown = [
            book + (table,)
            for book in grown
            for table in itertools.product(range(1, rungs + 1), repeat=max(book[-1]))
        ]
        books += grown
    return books


def standings_of(book):
    """All standings of a book, by growing them from the eldest climber on."""
    standings = [(rung,) for rung in range(1, book[0][0] + 1)]
    for table in book[1:]:
        standings = [
            standing + (rung,)
            for standing in standings
            for rung in range(1, table[standing[-1] - 1] + 1)
        ]
    return standings


def states_of(book):
    """All states of a book."""
    return [
        (standing, faces)
        for standing in standings_of(book)
        for faces in itertools.product((1, -1), repeat=len(book))
    ]
