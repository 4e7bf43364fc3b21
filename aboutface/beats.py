"""Beats: who is blocked, who goes, and the states one beat on and one beat back."""

from aboutface.books import length_of, lengths


def end_rung(length, face):
    """Return the rung on which a climber with this face is blocked."""
    return length if face == 1 else 1


def blocked(book, state):
    """Return the ascending list of all climbers who are blocked."""
    standing, faces = state
    ladders = lengths(book, standing)
    return [
        climber
        for climber in range(len(book))
        if standing[climber] == end_rung(ladders[climber], faces[climber])
    ]


def mover(book, state):
    """Return the climber who goes at the next beat, None if nobody does."""
    stuck = blocked(book, state)
    free = [climber for climber in range(len(book)) if climber not in stuck]
    return free[-1] if len(free) > 0 else None


def turned(state):
    """Return the STATE in which everybody has turned about."""
    standing, faces = state
    return tuple(standing), tuple([-face for face in faces])


def beat(book, state):
    """Return the STATE after one beat."""
    goer = mover(book, state)
    if goer is None:
        return turned(state)
    standing, faces = state
    rungs = list(standing[:goer])
    rungs.append(standing[goer] + faces[goer])
    # A younger climber was blocked and stays at that end, whatever the new length is.
    for climber in range(goer + 1, len(book)):
        rungs.append(end_rung(length_of(book, rungs, climber), faces[climber]))
    kept = list(faces[: goer + 1])
    negated = [-face for face in faces[goer + 1 :]]
    return tuple(rungs), tuple(kept + negated)


def beats_along(book, state, many):
    """Return the list of the STATE and the STATEs after 1, 2, .., many beats."""
    standing, faces = state
    states = [(tuple(standing), tuple(faces))]
    for number in range(many):
        states.append(beat(book, states[number]))
    return states


def before(book, state):
    """Return the STATE of which this one is the STATE after one beat."""
    # With all faces negated a beat leads the same way back.
    return turned(beat(book, turned(state)))
