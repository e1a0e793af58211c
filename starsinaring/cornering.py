"""Corners of a lot and their walks, for values that are known to be fit.

A table tells for each point, going up from it, the points with which LINES of the LOT or rim join it.
"""

from starsinaring.checks import is_number, told_row
from starsinaring.crossing import steps_to
from starsinaring.errors import Unfit


def neighbour_table(ring, lot):
    """For each point, going up from it, the points whose LINES with it are of lot or rim."""
    n, k = ring
    steps = [[k, n - k] for _ in range(n)]
    for a, b in lot:
        steps[a].append(steps_to(n, a, b))
        steps[b].append(steps_to(n, b, a))
    return [tuple([(point + step) % n for step in sorted(row)]) for point, row in enumerate(steps)]


def corners_there(table, point):
    """The CORNERS at point, as their second members come, going up."""
    row = table[point]
    return tuple([(point, row[at], row[at + 1]) for at in range(len(row) - 1)])


def every_corner(table):
    """The set of all CORNERS."""
    return tuple(sorted([own for point in range(len(table)) for own in corners_there(table, point)]))


def fits_corner(table, thing):
    """Whether thing is a CORNER."""
    if not isinstance(thing, tuple) or len(thing) != 3 or not all([is_number(own) for own in thing]):
        return False
    return 0 <= thing[0] < len(table) and thing in corners_there(table, thing[0])


def told_corner(table, value):
    """value, a CORNER."""
    corner = told_row(value)
    if not fits_corner(table, corner):
        raise Unfit()
    return corner


def next_one(table, corner):
    """The next CORNER of corner."""
    p, _, r = corner
    row = table[r]
    return (r, p, row[row.index(p) + 1])


def one_ahead(table, corner):
    """The CORNER whose next one corner is."""
    p, q, _ = corner
    row = table[q]
    return (q, row[row.index(p) - 1], p)


def walk_of(table, corner):
    """The walk of corner."""
    walk = [corner]
    behind = next_one(table, corner)
    while behind != corner:
        walk.append(behind)
        behind = next_one(table, behind)
    return tuple(walk)


def every_walk(table):
    """All walks, ascending, each from the least of its CORNERS on."""
    walks = []
    walked = set()
    for corner in every_corner(table):
        if corner not in walked:
            walks.append(walk_of(table, corner))
            for own in walks[-1]:
                walked.add(own)
    return walks
