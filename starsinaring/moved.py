"""Sets of lines and of points, turned and mirrored."""

from starsinaring.checks import told_lines, told_number, told_numbers, told_ring
from starsinaring.counting import ask_few_full
from starsinaring.errors import Unfit
from starsinaring.turning import all_turned, kinds_of, mirrored_lines, turned_lines


def turned(ring, lines, number):
    """The set of these LINES with p + number in the place of each point p."""
    ring = told_ring(ring)
    lines = told_lines(ring, lines)
    return turned_lines(ring[0], lines, told_number(number))


def mirrored(ring, lines):
    """The set of these LINES with n - 1 - p in the place of each point p."""
    ring = told_ring(ring)
    return mirrored_lines(ring[0], told_lines(ring, lines))


def points_turned(ring, points, number):
    """The set of p + number for each of points."""
    ring = told_ring(ring)
    points = _told_points(ring, points)
    told_number(number)
    return tuple(sorted([(point + number) % ring[0] for point in points]))


def points_mirrored(ring, points):
    """The set of n - 1 - p for each of points."""
    ring = told_ring(ring)
    return tuple(sorted([ring[0] - 1 - point for point in _told_points(ring, points)]))


def turns_to(ring, lines, other):
    """The set of the numbers by which lines, turned, are other."""
    ring, lines, other = _told_both(ring, lines, other)
    return _numbers_to(ring, lines, other)


def mirrors_to(ring, lines, other):
    """The set of the numbers by which lines, first mirrored, then turned, are other."""
    ring, lines, other = _told_both(ring, lines, other)
    return _numbers_to(ring, mirrored_lines(ring[0], lines), other)


def are_alike(ring, lines, other):
    """Whether lines are other, mirrored or not, turned by some number."""
    return len(turns_to(ring, lines, other)) + len(mirrors_to(ring, lines, other)) > 0


def like_itself(ring, lines):
    """The set of the numbers by which lines, turned, are lines."""
    return turns_to(ring, lines, lines)


def least_alike(ring, lines):
    """The least of all sets that lines are, mirrored or not, turned by whatever number."""
    ring = told_ring(ring)
    lines = told_lines(ring, lines)
    return min(all_turned(ring[0], lines) + all_turned(ring[0], mirrored_lines(ring[0], lines)))


def kinds(ring):
    """The FULL LOTS, ascending, that are the least of all those to which they can be turned."""
    ring = told_ring(ring)
    ask_few_full(ring)
    return kinds_of(ring)


def how_many_kinds(ring):
    """How many kinds there are."""
    return len(kinds(ring))


def _numbers_to(ring, lines, other):
    return tuple([number for number, own in enumerate(all_turned(ring[0], lines)) if own == other])


def _told_both(ring, lines, other):
    ring = told_ring(ring)
    lines = told_lines(ring, lines)
    return (ring, lines, told_lines(ring, other))


def _told_points(ring, value):
    """value, a set of points."""
    points = told_numbers(value)
    if not all([0 <= point < ring[0] for point in points]):
        raise Unfit()
    return points
