"""Lines of a ring."""

from starsinaring.checks import (
    ask_long, ask_points, fits_line, fits_ring, told_count, told_line, told_number, told_ring,
)
from starsinaring.crossing import all_long, all_rim, between, cross, length, steps_to
from starsinaring.errors import CanNot


def is_ring(thing):
    """Whether thing is a RING."""
    return fits_ring(thing)


def is_line(ring, thing):
    """Whether thing is a LINE of ring."""
    return fits_line(told_ring(ring), thing)


def length_of(ring, line):
    """The length of line."""
    ring = told_ring(ring)
    return length(ring[0], told_line(ring, line))


def kind_of(ring, line):
    """Whether line is "short", "rim" or "long"."""
    ring = told_ring(ring)
    steps = length(ring[0], told_line(ring, line))
    if steps < ring[1]:
        return "short"
    return "rim" if steps == ring[1] else "long"


def long_lines(ring):
    """The set of all long LINES."""
    return all_long(told_ring(ring))


def rim_lines(ring):
    """The set of all rim LINES."""
    return all_rim(told_ring(ring))


def how_many_long(ring):
    """How many long LINES there are."""
    n, k = told_ring(ring)
    return n * (n - 2 * k - 1) // 2


def long_at(ring, point):
    """The set of the long LINES one of whose ends is point."""
    ring = told_ring(ring)
    told_number(point)
    ask_points(ring, (point,))
    return tuple([line for line in all_long(ring) if point in line])


def line_number(ring, line):
    """How many long LINES are less than line, a long one."""
    ring = told_ring(ring)
    line = told_line(ring, line)
    ask_long(ring, line)
    return all_long(ring).index(line)


def line_at(ring, number):
    """The long LINE than which number long LINES are less."""
    lines = all_long(told_ring(ring))
    if told_count(number) >= len(lines):
        raise CanNot()
    return lines[number]


def steps_up(ring, point, far):
    """How many steps lead up from point to far."""
    return steps_to(_size_with_points(ring, point, far), point, far)


def strictly_between(ring, point, far):
    """The points strictly between point and far, going up from point."""
    return between(_size_with_points(ring, point, far), point, far)


def _size_with_points(ring, point, far):
    """How many points ring has; point and far are two of them."""
    ring = told_ring(ring)
    told_number(point)
    told_number(far)
    ask_points(ring, (point, far))
    return ring[0]


def sides_of(ring, line):
    """The points on either side of line."""
    ring = told_ring(ring)
    a, b = told_line(ring, line)
    return (between(ring[0], a, b), between(ring[0], b, a))


def do_cross(ring, line, other):
    """Whether line and other cross."""
    ring = told_ring(ring)
    return cross(told_line(ring, line), told_line(ring, other))


def crossers(ring, line):
    """The set of the long LINES that cross line."""
    ring = told_ring(ring)
    line = told_line(ring, line)
    return tuple([other for other in all_long(ring) if cross(line, other)])
