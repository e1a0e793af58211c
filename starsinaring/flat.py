"""A point less, a point more: full lots of n points out of those of n + 1, and back."""

from starsinaring.checks import (
    ask_few, ask_of, ask_points, is_number, told_line, told_number, told_ring, told_row,
)
from starsinaring.cornering import corners_there, neighbour_table, walk_of
from starsinaring.crossing import all_rim, is_long, joined, steps_to
from starsinaring.errors import CanNot, Unfit
from starsinaring.putting import told_full
from starsinaring.starring import walk_points
from starsinaring.turning import turned_lines


def flattened(ring, lot, point):
    """The FULL LOT of a point less that comes, and its ENDS at its point 0."""
    ring, lot = _told_with(ring, lot, point)
    if ring[0] == 2 * ring[1] + 1:
        raise CanNot()
    return _flattened_at_first(ring, turned_lines(ring[0], lot, -point))


def flat_line(ring, lot, point, line):
    """The LINE to which line goes there."""
    ring = told_ring(ring)
    n, k = ring
    lot = told_full(ring, lot)
    told_number(point)
    a, b = told_line(ring, line)
    ask_points(ring, (point,))
    ask_of(lot, (a, b))
    far = _far_points(ring, turned_lines(n, lot, -point))
    return _flat(k, far, joined((a - point) % n, (b - point) % n))


def blown_up(ring, lot, ends):
    """The FULL LOT of a point more that, flattened at 0, comes to lot with ends."""
    ring = told_ring(ring)
    lot = told_full(ring, lot)
    ends = _told_ends(ring, ends)
    return _blown(ring, lot, ends)


def ends_from(ring, lot, point):
    """All ENDS at point, ascending."""
    ring, lot = _told_with(ring, lot, point)
    n = ring[0]
    found = [()]
    # one goes on from whatever has come so far, by rim LINES at least: so there are never more than at last
    for row in _rows_from(ring, lot, point):
        found = [(*ends, far) for ends in found for far in row if not ends or _is_behind(n, point, ends[-1], far)]
        ask_few(len(found))
    return sorted(found)


def how_many_ends(ring, lot, point):
    """How many ENDS there are at point."""
    ring, lot = _told_with(ring, lot, point)
    n = ring[0]
    many = {point: 1}
    for row in _rows_from(ring, lot, point):
        many = {far: sum([many[own] for own in many if _is_behind(n, point, own, far)]) for far in row}
    return sum([many[far] for far in many])


def are_ends(ring, lot, point, thing):
    """Whether thing is one of the ENDS at point."""
    ring, lot = _told_with(ring, lot, point)
    return isinstance(thing, tuple) and all([is_number(own) for own in thing]) and _fits_ends(ring, lot, point, thing)


def ends_row(ring, lot):
    """The ENDS that come if lot is flattened at 0, what comes at 0, and so on, down to 2k + 1 points."""
    n, k = told_ring(ring)
    lot = told_full((n, k), lot)
    row = []
    for size in range(n, 2 * k + 1, -1):
        lot, ends = _flattened_at_first((size, k), lot)
        row.append(ends)
    return tuple(row)


def lot_of_ends(ring, row):
    """The FULL LOT of which row is the ends_row."""
    n, k = told_ring(ring)
    row = _told_ends_row((n, k), row)
    lot = ()
    for at, ends in enumerate(reversed(row)):
        lot = _blown((2 * k + 1 + at, k), lot, ends)
    return lot


def _told_with(ring, lot, point):
    """ring and lot, a FULL LOT; NoPoint if point is none."""
    ring = told_ring(ring)
    lot = told_full(ring, lot)
    told_number(point)
    ask_points(ring, (point,))
    return (ring, lot)


def _told_ends(ring, value):
    """value, a tuple of k points."""
    ends = _told_numbers(ring[1], value)
    if not all([0 <= own < ring[0] for own in ends]):
        raise Unfit()
    return ends


def _told_numbers(many, value):
    """value, a tuple of so many numbers."""
    row = tuple([told_number(own) for own in told_row(value)])
    if len(row) != many:
        raise Unfit()
    return row


def _told_ends_row(ring, value):
    """value, a tuple of n - 2k - 1 tuples of k numbers."""
    n, k = ring
    row = tuple([_told_numbers(k, ends) for ends in told_row(value)])
    if len(row) != n - 2 * k - 1:
        raise Unfit()
    return row


def _far_points(ring, lot):
    """The points of the STAR in lot with 0 to k that are above k, ascending."""
    table = neighbour_table(ring, lot)
    # at 0 the LINES of that STAR lead to k, which is rim, and to the next one behind it
    return walk_points(walk_of(table, corners_there(table, 0)[0]))[ring[1] + 1:]


def _flat(k, far, line):
    """Where line, of a LOT numbered from the point, goes: far are the far points of the STAR that is struck."""
    a, b = line
    # of p_a, for a to k, LINES up to q_a go to y_a, numbered a - 1, all others to the y behind it; far[a - 1] is q_a
    if a < k and (a == 0 or b > far[a - 1]):
        return (a, b - 1)
    return (a - 1, b - 1)


def _flattened_at_first(ring, lot):
    """lot flattened at 0: the FULL LOT of a point less, and its ENDS at 0."""
    n, k = ring
    far = _far_points(ring, lot)
    came = {_flat(k, far, line): True for line in lot}
    return (tuple([line for line in sorted(came) if is_long((n - 1, k), line)]), tuple([own - 1 for own in far]))


def _blown(ring, lot, ends):
    """The FULL LOT of a point more that, flattened at 0, comes to lot with ends; CanNot if these are no ENDS."""
    n, k = ring
    if not _fits_ends(ring, lot, 0, ends):
        raise CanNot()
    came = {}
    for a, b in lot + all_rim(ring):
        # y_i comes of p_(i - 1) and p_i: up to the end of y_i LINES go back to p_i, from this end on to p_(i - 1)
        if a >= k or b <= ends[a]:
            came[(a + 1, b + 1)] = True
        if a < k and b >= ends[a]:
            came[(a, b + 1)] = True
    return tuple([line for line in sorted(came) if is_long((n + 1, k), line)])


def _rows_from(ring, lot, point):
    """For each of the first ones of point, the points whose LINES with it are of lot or rim."""
    table = neighbour_table(ring, lot)
    return [table[(point + step) % ring[0]] for step in range(ring[1])]


def _is_behind(n, point, far, other):
    """Whether other comes behind far, going up from point."""
    return steps_to(n, point, far) < steps_to(n, point, other)


def _fits_ends(ring, lot, point, ends):
    """Whether ends, a tuple of numbers, are ENDS at point."""
    rows = _rows_from(ring, lot, point)
    if len(ends) != len(rows) or not all([far in row for far, row in zip(ends, rows)]):
        return False
    # LINES of points next to each other cross just if their ends come in the same order
    return all([_is_behind(ring[0], point, ends[at], ends[at + 1]) for at in range(len(ends) - 1)])
