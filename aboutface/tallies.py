"""Running sums over the rungs, by which standings are counted and found directly.

The part that a climber has passed is the same sum whatever the faces of the
younger climbers are: at each rung, all their standings come by exactly once.
"""

from aboutface.books import lengths


def ones(book):
    """Return WEIGHTS by which every STANDING counts once."""
    return [[1] * max(table) for table in book]


def running_sums(book, weights):
    """Return a row for each climber.

    Item r of a row is the sum, over the climber's rungs 1 to r and all ways in
    which the younger climbers can then stand, of the products of their weights.
    """
    rows = []
    for climber in reversed(range(len(book))):
        row = [0]
        for rung in range(1, max(book[climber]) + 1):
            younger = rows[-1][book[climber + 1][rung - 1]] if len(rows) > 0 else 1
            row.append(row[-1] + weights[climber][rung - 1] * younger)
        rows.append(row)
    return rows[::-1]


def passed(row, length, rung, face):
    """Return the sum for the rungs behind a climber who has come to this rung with this face."""
    return row[rung - 1] if face == 1 else row[length] - row[rung]


def rung_reached(row, length, face, number):
    """Return the last rung, in the direction of the face, with at most number behind it."""
    rungs = [rung for rung in range(1, length + 1) if passed(row, length, rung, face) <= number]
    return rungs[-1] if face == 1 else rungs[0]


def sum_before(book, weights, standing, faces):
    """Return the sum of the weights of the STANDINGs before this one, each climber having come with this face."""
    rows = running_sums(book, weights)
    ladders = lengths(book, standing)
    total = 0
    older = 1
    for climber, row in enumerate(rows):
        rung = standing[climber]
        total += older * passed(row, ladders[climber], rung, faces[climber])
        older *= weights[climber][rung - 1]
    return total
