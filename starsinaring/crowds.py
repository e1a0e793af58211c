"""Crowds: sets of lines each two of which cross."""

from math import comb

from starsinaring.checks import (
    ask_few, ask_points, fits_crowd, fits_crowd_of,
    told_count, told_crowd, told_line, told_lines, told_numbers, told_ring,
)
from starsinaring.crossing import cross, crowd_across, largest_crowd, room_table
from starsinaring.errors import Unfit


def is_crowd(ring, thing):
    """Whether thing is a CROWD of ring."""
    return fits_crowd(told_ring(ring), thing)


def crowd_of(ring, points):
    """The CROWD whose LINES have just these ends, each once."""
    ring = told_ring(ring)
    points = told_numbers(points)
    half = len(points) // 2
    if len(points) != 2 * half:
        raise Unfit()
    ask_points(ring, points)
    return tuple([(points[at], points[at + half]) for at in range(half)])


def points_of(ring, crowd):
    """The set of the ends of the LINES of crowd."""
    crowd = told_crowd(told_ring(ring), crowd)
    return tuple(sorted([point for line in crowd for point in line]))


def how_many_crowds(ring, number):
    """How many CROWDS of number LINES ring has."""
    ring = told_ring(ring)
    return comb(ring[0], 2 * told_count(number))


def crowds_in(ring, lines, number):
    """All CROWDS of number LINES of lines, ascending."""
    ring = told_ring(ring)
    lines = told_lines(ring, lines)
    if told_count(number) == 0:
        return [()]
    found = []
    marked = {line: True for line in lines}
    rooms = {}
    for line in lines:
        a, b = line
        if b not in rooms:
            # greater ends grow from b on: this parts them from all lesser ends
            rooms[b] = room_table(ring[0], marked, b)
        rest = [(c, d) for c, d in lines if a < c < b < d]
        _go_on((line,), rest, rooms[b], number, found)
    return found


def _go_on(crowd, rest, room, number, found):
    """Puts to found, ascending, all CROWDS of number LINES: those of crowd, then some of rest."""
    if len(crowd) == number:
        ask_few(len(found) + 1)
        found.append(crowd)
        return
    for a, b in rest:
        # without room for what is left to come no way on leads to a CROWD of so many
        if len(crowd) + 1 + room[a + 1][b + 1] >= number:
            behind = [(c, d) for c, d in rest if c > a and d > b]
            _go_on(crowd + ((a, b),), behind, room, number, found)


def how_great(ring, lines):
    """The greatest number of LINES of lines that are a CROWD."""
    return len(greatest_crowd(ring, lines))


def greatest_crowd(ring, lines):
    """A CROWD of how_great LINES of lines."""
    ring = told_ring(ring)
    return largest_crowd(ring[0], told_lines(ring, lines))


def crowd_with(ring, lines, line):
    """A CROWD with line, its other LINES out of lines, with most LINES."""
    ring = told_ring(ring)
    lines = told_lines(ring, lines)
    line = told_line(ring, line)
    crowd = crowd_across(ring[0], line, lines)
    return tuple(sorted((line, *crowd)))


def is_greatest_crowd(ring, lines, thing):
    """Whether thing is a CROWD of how_great LINES, all of lines."""
    ring = told_ring(ring)
    lines = told_lines(ring, lines)
    return fits_crowd_of(ring, thing, lines, len(largest_crowd(ring[0], lines)))


def how_often(ring, lines):
    """How many sets of two LINES of lines cross."""
    lines = told_lines(told_ring(ring), lines)
    return sum([1 for at in range(len(lines)) for other in lines[at + 1:] if cross(lines[at], other)])
