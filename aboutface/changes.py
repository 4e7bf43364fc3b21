"""Other books: the eldest climbers of a book alone, one more climber, another table."""

from aboutface.books import as_book, check_climber
from aboutface.errors import BadTable, NoClimber
from aboutface.goes import steps_between


def check_eldest(many, most):
    """Raise NoClimber if the eldest climbers cannot be so many, of most in all."""
    if many < 1 or many > most:
        raise NoClimber(many)


def check_table(table, climber, wanted):
    """Raise BadTable if the table of the climber does not have as many items as are wanted."""
    if len(table) != wanted:
        raise BadTable(climber)


def part(book, many):
    """Return the BOOK of the eldest many climbers."""
    check_eldest(many, len(book))
    return as_book(book[:many])


def part_state(state, many):
    """Return the STATE of the eldest many climbers."""
    standing, faces = state
    check_eldest(many, len(standing))
    return tuple(standing[:many]), tuple(faces[:many])


def steps_many(book, state, older, many):
    """Return at how many of the next many beats one of the eldest climbers goes, or all of these turn about."""
    check_eldest(older, len(book))
    return steps_between(book, state, older, many)


def with_climber(book, table):
    """Return the BOOK with one more climber, younger than all, with this table."""
    check_table(table, len(book), max(book[-1]))
    return as_book([*book, table])


def with_table(book, climber, table):
    """Return the BOOK with another table for a climber."""
    check_climber(book, climber)
    check_table(table, climber, max(book[climber - 1]) if climber > 0 else 1)
    if climber + 1 < len(book):
        check_table(book[climber + 1], climber + 1, max(table))
    tables = list(book)
    tables[climber] = table
    return as_book(tables)
