"""Stars: 2k + 1 points, each joined with the k-th next one."""

from starsinaring.checks import ask_side, fits_star, told_group, told_line, told_ring, told_star
from starsinaring.cornering import neighbour_table, told_corner
from starsinaring.crossing import all_rim, is_long, joined
from starsinaring.errors import CanNot
from starsinaring.putting import is_full_lot, told_lot, told_lot_with
from starsinaring.starring import (
    ask_star, common_to, every_star, is_in_lot, lines_lacking, long_of_stars, star_corner, star_lines, stars_with,
)
from starsinaring.wiring import all_wires_cross


def is_star(ring, thing):
    """Whether thing is a STAR of ring."""
    return fits_star(told_ring(ring), thing)


def lines_of_star(ring, star):
    """The set of the LINES of star."""
    return star_lines(told_star(told_ring(ring), star))


def common_lines(ring, star, other):
    """The set of the LINES that are of star and of other."""
    ring = told_ring(ring)
    star = told_star(ring, star)
    return common_to(star, told_star(ring, other))


def stars_in(ring, lot):
    """The set of the STARS in lot."""
    ring = told_ring(ring)
    return every_star(ring, told_lot(ring, lot))


def is_star_in(ring, lot, thing):
    """Whether thing is a STAR in lot."""
    ring = told_ring(ring)
    lot = told_lot(ring, lot)
    return fits_star(ring, thing) and is_in_lot(ring, lot, thing)


def how_many_stars(ring, lot):
    """How many STARS are in lot."""
    return len(stars_in(ring, lot))


def stars_at(ring, lot, point):
    """The set of the STARS in lot with point."""
    ring, lot = told_lot_with(ring, lot, (point,))
    return tuple([star for star in every_star(ring, lot) if point in star])


def stars_of_line(ring, lot, line):
    """The set of the STARS in lot that have line."""
    ring = told_ring(ring)
    lot = told_lot(ring, lot)
    line = told_line(ring, line)
    ask_side(ring, lot, line)
    return stars_with(ring, lot, line)


def rim_star(ring, lot, point):
    """The STAR in lot that has the LINE of point and the k-th next one."""
    ring, lot = told_lot_with(ring, lot, (point,))
    return _only(stars_with(ring, lot, joined(point, (point + ring[1]) % ring[0])))


def star_of_corner(ring, lot, corner):
    """The STAR in lot one of whose corners is corner."""
    ring = told_ring(ring)
    lot = told_lot(ring, lot)
    corner = told_corner(neighbour_table(ring, lot), corner)
    point = corner[0]
    stars = [star for star in every_star(ring, lot) if point in star]
    return _only([star for star in stars if star_corner(star, point) == corner])


def stars_beside(ring, lot, star):
    """The set of the STARS in lot, but star, that have a LINE of lot in common with it."""
    ring, lot, star = _told_with_star(ring, lot, star)
    ask_star(ring, lot, star)
    others = [other for other in every_star(ring, lot) if other != star]
    return tuple([other for other in others if any([is_long(ring, line) for line in common_to(star, other)])])


def lacking_lines(ring, lot, star):
    """The set of the LINES of star that are neither of lot nor rim."""
    ring, lot, star = _told_with_star(ring, lot, star)
    return lines_lacking(ring, lot, star)


def lot_with_stars(ring, group):
    """The LOT of all long LINES of the STARS of group."""
    ring = told_ring(ring)
    lot = long_of_stars(ring, told_group(ring, group))
    if not all_wires_cross(ring, lot):
        raise CanNot()
    return lot


def lot_of_stars(ring, group):
    """The FULL LOT such that group is the set of the STARS in it."""
    ring = told_ring(ring)
    return _full_of(ring, told_group(ring, group))


def star_left(ring, group):
    """The STAR that group lacks to be the set of the STARS in a FULL LOT."""
    ring = told_ring(ring)
    group = told_group(ring, group)
    star = _ends_left(ring, group)
    # ends that are no STAR, or one of group, do not make it a set of all STARS in a LOT
    _full_of(ring, tuple(sorted((*group, star))))
    return star


def _full_of(ring, group):
    """The FULL LOT in which just the STARS of group are; CanNot if there is none."""
    lot = long_of_stars(ring, group)
    if not is_full_lot(ring, lot) or every_star(ring, lot) != group:
        raise CanNot()
    return lot


def _ends_left(ring, group):
    """The ends of the LINES that a FULL LOT with the STARS of group must have in one STAR more."""
    # each LINE of a FULL LOT is one of two STARS, each rim one of one: as if it had one already
    often = {line: 1 for line in all_rim(ring)}
    for star in group:
        for line in star_lines(star):
            often[line] = often.get(line, 0) + 1
    ends = {point: True for line in often if often[line] == 1 for point in line}
    return tuple(sorted(ends))


def _only(stars):
    """The first of stars; CanNot if there is none."""
    if not stars:
        raise CanNot()
    return stars[0]


def _told_with_star(ring, lot, star):
    ring = told_ring(ring)
    lot = told_lot(ring, lot)
    return (ring, lot, told_star(ring, star))
