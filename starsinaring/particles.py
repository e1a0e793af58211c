"""Particles: low wires that go up all they can, and what holds those that fall short."""

from starsinaring.checks import ask_between, fits_crowd_of, told_drawing, told_lines, told_number, told_ring
from starsinaring.crossing import is_long
from starsinaring.errors import CanNot
from starsinaring.wiring import all_wires_cross, ask_run, lanes_in, wire_orders


def low_lanes(ring, drawing, low):
    """The sets of the lanes of the low wires: at the beginning, and behind each run."""
    ring, drawing = _told_drawing_with(ring, drawing, (low,))
    _ask_low(ring, low)
    return _lanes_by_run(ring, drawing, low)


def lanes_of_low(ring, drawing, low, index):
    """The lanes of low one index: at the beginning, and behind each run."""
    ring, drawing = _told_drawing_with(ring, drawing, (low, index))
    _ask_low_one(ring, low, index)
    return tuple([lanes[low - index] for lanes in _lanes_by_run(ring, drawing, low)])


def held_by(ring, drawing, low, index, run):
    """What holds low one index in the run: a LINE, "above" or "end"."""
    ring, drawing = _told_drawing_with(ring, drawing, (low, index, run))
    _ask_low_one(ring, low, index)
    ask_run(ring, run)
    return _holder(ring, drawing, _lanes_by_run(ring, drawing, low), low - index, run)


def comes(ring, drawing, low, index):
    """Whether low one index does not fall short."""
    return lanes_of_low(ring, drawing, low, index)[-1] == lanes_in(ring) + 1 - index


def how_many_below(ring, drawing, low):
    """How many low wires are, behind all runs, on lanes 1 to N - low."""
    last = low_lanes(ring, drawing, low)[-1]
    return len([lane for lane in last if lane <= lanes_in(ring) - low])


def falls_short(ring, drawing):
    """The least pair (low, index) that falls short; None if there is none."""
    ring = told_ring(ring)
    return _first_short(ring, told_drawing(ring, drawing))


def all_come(ring, drawing):
    """Whether no low one falls short, for each low."""
    ring = told_ring(ring)
    return all_wires_cross(ring, told_drawing(ring, drawing))


def read_back(ring, drawing, low, index):
    """The set of the LINES that are noted if low one index is read back."""
    if comes(ring, drawing, low, index):
        raise CanNot()
    ring, drawing = _told_drawing_with(ring, drawing, (low, index))
    return _noted_lines(ring, drawing, low, index)


def noted(ring, drawing):
    """A CROWD of k + 1 LINES of drawing."""
    ring = told_ring(ring)
    drawing = told_drawing(ring, drawing)
    short = _first_short(ring, drawing)
    if short is None:
        raise CanNot()
    return _noted_lines(ring, drawing, *short)[:ring[1] + 1]


def is_noted(ring, drawing, thing):
    """Whether thing is a CROWD of k + 1 LINES of drawing."""
    ring = told_ring(ring)
    drawing = told_drawing(ring, drawing)
    return fits_crowd_of(ring, thing, drawing, ring[1] + 1)


def least_width(ring, lines):
    """The least m with which all low ones come in the ring of as many points."""
    n, k = told_ring(ring)
    lines = told_lines((n, k), lines)
    if not lines:
        return 0
    for width in range(1, (n + 1) // 2):
        if all_wires_cross((n, width), [line for line in lines if is_long((n, width), line)]):
            return width
    return n // 2


def _told_drawing_with(ring, drawing, numbers):
    ring = told_ring(ring)
    drawing = told_drawing(ring, drawing)
    for number in numbers:
        told_number(number)
    return (ring, drawing)


def _ask_low(ring, low):
    ask_between(low, 1, lanes_in(ring) - 1)


def _ask_low_one(ring, low, index):
    _ask_low(ring, low)
    ask_between(index, 1, low)


def _lanes_by_run(ring, drawing, low):
    orders = wire_orders(ring, drawing)
    return [tuple([at + 1 for at, wire in enumerate(order) if wire <= low]) for order in orders]


def _holder(ring, drawing, lanes, place, run):
    """What holds, in the run, the low one that has place in the sets of lanes."""
    lane = lanes[run + 1][place]
    line = (run, run + ring[1] + lane)
    if line in drawing:
        return line
    if place + 1 < len(lanes[run]) and lanes[run][place + 1] == lane + 1:
        return "above"
    return "end"


def _first_short(ring, drawing):
    top = lanes_in(ring)
    last = wire_orders(ring, drawing)[-1]
    for low in range(1, top):
        lanes = [at + 1 for at, wire in enumerate(last) if wire <= low]
        for index in range(1, low + 1):
            if lanes[low - index] != top + 1 - index:
                return (low, index)
    return None


def _noted_lines(ring, drawing, low, index):
    lanes = _lanes_by_run(ring, drawing, low)
    place = low - index
    found = []
    for run in reversed(range(ring[1] + index)):
        holder = _holder(ring, drawing, lanes, place, run)
        if holder == "above":
            place += 1
        else:
            found.append(holder)
    return tuple(reversed(found))
