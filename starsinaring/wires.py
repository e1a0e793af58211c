"""Wires of a full lot: they are its stars; and plain wires with any drawing."""

from starsinaring.checks import (
    ask_between, told_drawing, told_line, told_long_line, told_number, told_ring, told_row, told_star,
)
from starsinaring.crossing import all_long, is_long, length
from starsinaring.errors import CanNot, NoLine, Unfit
from starsinaring.putting import is_full_lot, told_full
from starsinaring.starring import ask_star, every_star
from starsinaring.wiring import ask_run, lanes_in, lines_crossed, plain_wires, wire_orders


def wire_way(ring, lot, wire):
    """The LINES to which wire comes, each with "touch", "cross" or "rim"."""
    ring, lot = _told_with_wires(ring, lot, (wire,))
    coming = _all_coming(ring, lot)
    lines = sorted([line for line in coming if wire in coming[line]])
    return tuple([(line, _word(ring, lot, line)) for line in lines])


def star_of(ring, lot, wire):
    """The STAR of wire."""
    ring, lot = _told_with_wires(ring, lot, (wire,))
    return [star for star in every_star(ring, lot) if _wire(star) == wire][0]


def wire_of(ring, lot, star):
    """The wire of star."""
    ring = told_ring(ring)
    lot = told_full(ring, lot)
    star = told_star(ring, star)
    ask_star(ring, lot, star)
    return _wire(star)


def cross_line(ring, lot, wire, far):
    """The LINE at which wire and far cross."""
    ring, lot = _told_with_wires(ring, lot, (wire, far))
    if wire == far:
        raise CanNot()
    return _crossings(ring, lot)[wire - 1][far - 1]


def wires_at(ring, lot, line):
    """The set of the wires that come to line."""
    ring = told_ring(ring)
    lot = told_full(ring, lot)
    line = told_line(ring, line)
    if length(ring[0], line) < ring[1]:
        raise NoLine(line)
    return _all_coming(ring, lot)[line]


def order_behind(ring, lot, run):
    """The wires, from lane 1 up, behind the run."""
    ring = told_ring(ring)
    lot = told_full(ring, lot)
    ask_run(ring, told_number(run))
    return wire_orders(ring, lot)[run + 1]


def crosses_told(ring, lot):
    """For each wire, and each wire, the LINE at which both cross; None if they are alike."""
    ring = told_ring(ring)
    return _crossings(ring, told_full(ring, lot))


def lot_of_crosses(ring, table):
    """The FULL LOT of which table tells the crossings."""
    ring = told_ring(ring)
    table = _told_table(ring, table)
    out = {line: True for row in table for line in row}
    lot = tuple([line for line in all_long(ring) if line not in out])
    if not is_full_lot(ring, lot) or _crossings(ring, lot) != table:
        raise CanNot()
    return lot


def passes(ring, drawing):
    """For each plain wire, and each plain wire, how often both cross."""
    ring = told_ring(ring)
    drawing = told_drawing(ring, drawing)
    pairs, _ = plain_wires(ring, drawing)
    many = [[0] * lanes_in(ring) for _ in range(lanes_in(ring))]
    for line in pairs:
        if line not in drawing:
            low, high = pairs[line]
            many[low - 1][high - 1] += 1
            many[high - 1][low - 1] += 1
    return tuple([tuple(row) for row in many])


def all_once(ring, drawing):
    """Whether each two plain wires cross just once."""
    rows = passes(ring, drawing)
    return all([rows[at][other] == 1 for at in range(len(rows)) for other in range(at)])


def end_order(ring, drawing):
    """The plain wires, from lane 1 up, at the end."""
    ring = told_ring(ring)
    _, order = plain_wires(ring, told_drawing(ring, drawing))
    return order


def _wire(star):
    """The wire of star: its point with k points ahead of it is k + w - 1."""
    k = len(star) // 2
    return star[k] - k + 1


def _all_coming(ring, lot):
    """For each LINE that is not short the set of the wires that come to it."""
    n, k = ring
    pairs, _ = plain_wires(ring, lot)
    coming = {line: tuple(sorted(pairs[line])) for line in pairs}
    coming[(0, k)] = (1,)
    for run, order in enumerate(wire_orders(ring, lot)[1:]):
        coming[(run + 1, run + 1 + k)] = order[:1]
        if run < k:
            coming[(run, run + n - k)] = order[-1:]
    return coming


def _word(ring, lot, line):
    if not is_long(ring, line):
        return "rim"
    return "touch" if line in lot else "cross"


def _crossings(ring, lot):
    pairs, _ = plain_wires(ring, lot)
    crossed = lines_crossed(lot, pairs)
    wires = range(1, lanes_in(ring) + 1)
    return tuple([tuple([crossed.get((min(own, far), max(own, far))) for far in wires]) for own in wires])


def _told_table(ring, value):
    """value, N tuples of N values: None where a wire is told with itself, else long LINES."""
    table = tuple([told_row(row) for row in told_row(value)])
    many = lanes_in(ring)
    if [len(row) for row in table] != [many] * many:
        raise Unfit()
    return tuple([tuple([_told_place(ring, table, at, far) for far in range(many)]) for at in range(many)])


def _told_place(ring, table, at, far):
    value = table[at][far]
    if at != far:
        return told_long_line(ring, value)
    if value is not None:
        raise Unfit()
    return None


def _told_with_wires(ring, lot, wires):
    ring = told_ring(ring)
    lot = told_full(ring, lot)
    for wire in wires:
        told_number(wire)
    for wire in wires:
        ask_between(wire, 1, lanes_in(ring))
    return (ring, lot)
