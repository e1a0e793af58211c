"""Corners of a lot, and the walks that lead from one to the next."""

from starsinaring.checks import ask_side, told_line, told_ring
from starsinaring.cornering import (
    corners_there, every_corner, every_walk, fits_corner, neighbour_table, next_one, one_ahead, told_corner, walk_of,
)
from starsinaring.crossing import between, joined, looks, steps_to
from starsinaring.putting import told_lot, told_lot_with
from starsinaring.starring import is_walk_of_star


def neighbours(ring, lot, point):
    """The points, going up from point, whose LINES with point are of lot or rim."""
    return _table_with(ring, lot, (point,))[point]


def corners_at(ring, lot, point):
    """The CORNERS at point, as their second members come, going up."""
    return corners_there(_table_with(ring, lot, (point,)), point)


def all_corners(ring, lot):
    """The set of all CORNERS of lot."""
    return every_corner(_table(ring, lot))


def is_corner(ring, lot, thing):
    """Whether thing is a CORNER of lot."""
    return fits_corner(_table(ring, lot), thing)


def looks_at(ring, lot, corner):
    """The points at which corner looks, going up."""
    table = _table(ring, lot)
    _, q, r = told_corner(table, corner)
    return between(len(table), q, r)


def corner_looking(ring, lot, point, far):
    """The CORNER at point that looks at far; None if there is none."""
    table = _table_with(ring, lot, (point, far))
    for corner in corners_there(table, point):
        if looks(len(table), corner, far):
            return corner
    return None


def corners_of(ring, lot, line):
    """The set of the CORNERS of lot one of whose two LINES is line."""
    ring = told_ring(ring)
    lot = told_lot(ring, lot)
    line = told_line(ring, line)
    ask_side(ring, lot, line)
    corners = every_corner(neighbour_table(ring, lot))
    return tuple([(p, q, r) for p, q, r in corners if line in (joined(p, q), joined(p, r))])


def next_corner(ring, lot, corner):
    """The next CORNER of corner."""
    table = _table(ring, lot)
    return next_one(table, told_corner(table, corner))


def corner_ahead(ring, lot, corner):
    """The CORNER whose next one corner is."""
    table = _table(ring, lot)
    return one_ahead(table, told_corner(table, corner))


def corner_walk(ring, lot, corner):
    """The walk of corner: itself, its next one, and so on, until the first would come again."""
    table = _table(ring, lot)
    return walk_of(table, told_corner(table, corner))


def walk_rounds(ring, lot, corner):
    """How many times the walk of corner goes round the ring."""
    n, _ = told_ring(ring)
    return sum([steps_to(n, p, r) for p, _, r in corner_walk(ring, lot, corner)]) // n


def corner_walks(ring, lot):
    """All walks, ascending, each from the least of its CORNERS on."""
    return every_walk(_table(ring, lot))


def is_star_walk(ring, lot, corner):
    """Whether the walk of corner is a STAR's."""
    ring = told_ring(ring)
    lot = told_lot(ring, lot)
    table = neighbour_table(ring, lot)
    return is_walk_of_star(ring, lot, walk_of(table, told_corner(table, corner)))


def _table(ring, lot):
    ring = told_ring(ring)
    return neighbour_table(ring, told_lot(ring, lot))


def _table_with(ring, lot, points):
    ring, lot = told_lot_with(ring, lot, points)
    return neighbour_table(ring, lot)
