"""Books of ladders, standings, faces and states."""

from aboutface.errors import NoClimber


def is_whole(value):
    """Tell whether value is an integer; True and False are none."""
    return isinstance(value, int) and not isinstance(value, bool)


def is_table(value):
    """Tell whether value is a tuple of integers, at least 1, of any number."""
    if not isinstance(value, tuple):
        return False
    return all([is_whole(item) and item >= 1 for item in value])


def are_faces(value, many):
    """Tell whether value is a tuple of so many integers, each 1 or -1."""
    if not isinstance(value, tuple) or len(value) != many:
        return False
    return all([is_whole(item) and item in (1, -1) for item in value])


def is_book(value):
    """Tell whether value is a BOOK."""
    if not isinstance(value, tuple) or len(value) == 0:
        return False
    wanted = 1
    for table in value:
        if not is_table(table) or len(table) != wanted:
            return False
        wanted = max(table)
    return True


def check_climber(book, climber):
    """Raise NoClimber if no climber of the BOOK has this number."""
    if climber < 0 or climber >= len(book):
        raise NoClimber(climber)


def length_of(book, rungs, climber):
    """Return the length of a climber's ladder; rungs may end before that climber."""
    if climber == 0:
        return book[0][0]
    return book[climber][rungs[climber - 1] - 1]


def is_standing(book, value):
    """Tell whether value is a STANDING of the BOOK."""
    if not isinstance(value, tuple) or len(value) != len(book):
        return False
    # From the eldest on: a length can be looked up only if the older rung is right.
    for climber, rung in enumerate(value):
        if not is_whole(rung) or rung < 1 or rung > length_of(book, value, climber):
            return False
    return True


def is_state(book, value):
    """Tell whether value is a STATE of the BOOK."""
    if not isinstance(value, tuple) or len(value) != 2:
        return False
    return is_standing(book, value[0]) and are_faces(value[1], len(book))


def lengths(book, standing):
    """Return the tuple of the lengths of all ladders."""
    return tuple([length_of(book, standing, climber) for climber in range(len(book))])


def as_book(book):
    """Return a copy of the BOOK that is made of tuples."""
    return tuple([tuple(table) for table in book])


def as_state(state):
    """Return a copy of the STATE that is made of tuples."""
    standing, faces = state
    return tuple(standing), tuple(faces)
