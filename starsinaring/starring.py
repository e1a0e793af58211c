"""Stars, and which of them are in a lot, for values that are known to be fit."""

from starsinaring.cornering import every_walk, neighbour_table
from starsinaring.crossing import is_long, joined, looks
from starsinaring.errors import NoStar


def star_lines(star):
    """The set of the LINES of star."""
    k = len(star) // 2
    return tuple(sorted([joined(point, star[(at + k) % len(star)]) for at, point in enumerate(star)]))


def star_corner(star, point):
    """The corner of star at point, one of its points."""
    far = star.index(point) + len(star) // 2
    return (point, star[far % len(star)], star[(far + 1) % len(star)])


def lines_lacking(ring, lot, star):
    """The set of the LINES of star that are neither of lot nor rim."""
    return tuple([line for line in star_lines(star) if is_long(ring, line) and line not in lot])


def is_in_lot(ring, lot, star):
    """Whether star is in lot."""
    return len(lines_lacking(ring, lot, star)) == 0


def walk_points(walk):
    """The points of the CORNERS of walk, ascending."""
    return tuple(sorted([corner[0] for corner in walk]))


def is_walk_of_star(ring, lot, walk):
    """Whether walk, of CORNERS of lot, is a STAR's."""
    points = walk_points(walk)
    if len(points) != 2 * ring[1] + 1 or len(set(points)) != len(points):
        return False
    return is_in_lot(ring, lot, points)


def every_star(ring, lot):
    """The set of the STARS in lot."""
    walks = every_walk(neighbour_table(ring, lot))
    # a STAR in a LOT has CORNERS of the LOT for corners: so they are a walk
    return tuple(sorted([walk_points(walk) for walk in walks if is_walk_of_star(ring, lot, walk)]))


def stars_with(ring, lot, line):
    """The set of the STARS in lot that have line."""
    return tuple([star for star in every_star(ring, lot) if line in star_lines(star)])


def common_to(star, other):
    """The set of the LINES of both."""
    theirs = star_lines(other)
    return tuple([line for line in star_lines(star) if line in theirs])


def long_of_stars(ring, stars):
    """The set of the long LINES of stars."""
    long = {line: True for star in stars for line in star_lines(star) if is_long(ring, line)}
    return tuple(sorted(long))


def looks_along(n, star, point, far):
    """Whether point is one of star and its corner there looks at far."""
    return point in star and looks(n, star_corner(star, point), far)


def all_that_meet(n, star, other):
    """The set of the LINES that meet star and other."""
    found = []
    for point in star:
        for far in other:
            if looks_along(n, star, point, far) and looks_along(n, other, far, point):
                found.append(joined(point, far))
    return tuple(sorted(found))


def ask_star(ring, lot, star):
    """Raises NoStar if star is not in lot."""
    if not is_in_lot(ring, lot, star):
        raise NoStar(star)
