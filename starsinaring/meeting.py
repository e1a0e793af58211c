"""Lines that meet two stars."""

from starsinaring.checks import (
    ask_out, ask_points, told_drawing, told_line, told_number, told_ring, told_star,
)
from starsinaring.crossing import all_long
from starsinaring.errors import CanNot
from starsinaring.putting import is_full_lot, told_full
from starsinaring.starring import all_that_meet, ask_star, every_star, long_of_stars, looks_along, star_corner
from starsinaring.wiring import all_wires_cross


def lines_out(ring, lot):
    """The set of the long LINES that are not in lot."""
    ring = told_ring(ring)
    return _others(ring, told_full(ring, lot))


def lot_without(ring, lines):
    """The FULL LOT that has all long LINES but lines."""
    ring = told_ring(ring)
    lot = _others(ring, told_drawing(ring, lines))
    if not is_full_lot(ring, lot):
        raise CanNot()
    return lot


def met_line(ring, lot, star, other):
    """The LINE that meets star and other."""
    ring = told_ring(ring)
    lot = told_full(ring, lot)
    star = told_star(ring, star)
    other = told_star(ring, other)
    ask_star(ring, lot, star)
    ask_star(ring, lot, other)
    if star == other:
        raise CanNot()
    return _met(ring, star, other)


def met_stars(ring, lot, line):
    """The set of the two STARS in lot that line meets."""
    ring = told_ring(ring)
    lot = told_full(ring, lot)
    line = told_line(ring, line)
    ask_out(ring, lot, line)
    a, b = line
    n = ring[0]
    stars = every_star(ring, lot)
    return tuple([star for star in stars if looks_along(n, star, a, b) or looks_along(n, star, b, a)])


def couples(ring, lot):
    """All triples (star, other, line): two STARS in lot, the lesser one first, and the LINE that meets them."""
    ring = told_ring(ring)
    stars = every_star(ring, told_full(ring, lot))
    return [(star, other, _met(ring, star, other)) for star in stars for other in stars if star < other]


def couples_of(ring, lot, star):
    """The pairs (other, line) for all other STARS in lot."""
    ring = told_ring(ring)
    lot = told_full(ring, lot)
    star = told_star(ring, star)
    ask_star(ring, lot, star)
    return tuple([(other, _met(ring, star, other)) for other in every_star(ring, lot) if other != star])


def corner_of(ring, star, point):
    """The corner of star at point."""
    _, star = _told_with_point(ring, star, point)
    if point not in star:
        raise CanNot()
    return star_corner(star, point)


def seen_from(ring, star, point):
    """The one of the points of star at which its corner looks at point."""
    ring, star = _told_with_point(ring, star, point)
    for own in star:
        if looks_along(ring[0], star, own, point):
            return own
    raise CanNot()


def do_meet(ring, star, other, line):
    """Whether line meets star and other."""
    ring, star, other = _told_both(ring, star, other)
    return told_line(ring, line) in all_that_meet(ring[0], star, other)


def all_meeting(ring, star, other):
    """The set of all LINES that meet star and other."""
    ring, star, other = _told_both(ring, star, other)
    return all_that_meet(ring[0], star, other)


def get_along(ring, star, other):
    """Whether some LOT has star and other in it."""
    ring, star, other = _told_both(ring, star, other)
    return all_wires_cross(ring, long_of_stars(ring, (star, other)))


def _others(ring, drawing):
    """The set of the long LINES that are not of drawing."""
    return tuple([line for line in all_long(ring) if line not in drawing])


def _met(ring, star, other):
    """The one LINE that meets two STARS in a FULL LOT."""
    return all_that_meet(ring[0], star, other)[0]


def _told_both(ring, star, other):
    ring = told_ring(ring)
    star = told_star(ring, star)
    return (ring, star, told_star(ring, other))


def _told_with_point(ring, star, point):
    ring = told_ring(ring)
    star = told_star(ring, star)
    told_number(point)
    ask_points(ring, (point,))
    return (ring, star)
