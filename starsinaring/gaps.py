"""Full lots that have told lines, or have none of them."""

from math import comb

from starsinaring.checks import told_drawing, told_ring
from starsinaring.counting import (
    ask_lanes, crossed_at, how_many_ways, last_order, lot_of_way, past_tie, ties_in, ways_from_first, ways_to_last,
)
from starsinaring.crossing import all_long
from starsinaring.errors import CanNot, Unfit
from starsinaring.putting import told_full, told_lot
from starsinaring.swapping import all_full_with, fits_led, least_full_with, newcomers, row_between
from starsinaring.wiring import lines_touched


def least_with(ring, lot):
    """The least of all FULL LOTS that have lot."""
    ring = told_ring(ring)
    return least_full_with(ring, told_lot(ring, lot))


def greatest_with(ring, lot):
    """The greatest of all FULL LOTS that have lot."""
    ring = told_ring(ring)
    return lines_touched(ring, told_lot(ring, lot), all_long(ring))


def all_with(ring, lot):
    """All FULL LOTS that have lot, ascending."""
    ring = told_ring(ring)
    return all_full_with(ring, told_lot(ring, lot))


def sizes_with(ring, lot):
    """How many LOTS have all LINES of lot and 0, 1, .. more."""
    ring = told_ring(ring)
    lot = told_lot(ring, lot)
    full_lots = all_full_with(ring, lot)
    most = len(full_lots[0]) - len(lot)
    sizes = [0] * (most + 1)
    # each LOT is in just one FULL LOT of whose LINES it lacks only such as rise
    for full in full_lots:
        news = newcomers(ring, full)
        rising = len([line for line in full if line not in lot and news[line] > line])
        for lacking in range(rising + 1):
            sizes[most - lacking] += comb(rising, lacking)
    return tuple(sizes)


def joined_with(ring, lot, full, other):
    """A tuple of EXCHANGES that leads from full to other and takes no LINE of lot away."""
    ring, lot, full, other = _told_both(ring, lot, full, other)
    return row_between(ring, full, other, lot)


def is_joined_with(ring, lot, full, other, thing):
    """Whether thing is a tuple of EXCHANGES that leads from full to other and takes no LINE of lot away."""
    ring, lot, full, other = _told_both(ring, lot, full, other)
    return fits_led(ring, full, other, thing, lot)


def can_be(ring, inside, outside):
    """Whether some FULL LOT has all LINES of inside and none of outside."""
    ring, inside, outside = _told_sides(ring, inside, outside)
    return how_many_ways(ring, inside, outside) > 0


def some_with(ring, inside, outside):
    """The least FULL LOT that has all LINES of inside and none of outside."""
    ring, inside, outside = _told_sides(ring, inside, outside)
    ways = ways_to_last(ring, inside, outside)
    if not how_many_ways(ring, inside, outside):
        raise CanNot()
    return lot_of_way(ring, ways, outside, 0)


def always_lines(ring, inside, outside):
    """The set of the LINES that all FULL LOTS have that have inside and not outside."""
    ring, inside, outside = _told_sides(ring, inside, outside)
    crossed = _ties_used(ring, inside, outside, False)
    return tuple([line for line in all_long(ring) if line not in crossed])


def never_lines(ring, inside, outside):
    """The set of the long LINES that no FULL LOT has that has inside and not outside."""
    ring, inside, outside = _told_sides(ring, inside, outside)
    touched = _ties_used(ring, inside, outside, True)
    return tuple([line for line in all_long(ring) if line not in touched])


def is_block(ring, drawing):
    """Whether each FULL LOT has a LINE of drawing."""
    ring = told_ring(ring)
    drawing = told_drawing(ring, drawing)
    ask_lanes(ring)
    return how_many_ways(ring, (), drawing) == 0


def least_block(ring, drawing):
    """What is left of drawing if, from the last to the first, LINES are left out as long as it is a block."""
    ring = told_ring(ring)
    drawing = told_drawing(ring, drawing)
    ask_lanes(ring)
    came = ways_from_first(ring, (), drawing)
    if last_order(ring) in came[-1]:
        raise CanNot()
    left = []
    going = {last_order(ring): 1}
    for at, tie in reversed(list(enumerate(ties_in(ring)))):
        free = past_tie(going, tie, (), (), True)
        # a way through with nothing left out ahead of it: without this LINE the rest is no block
        if tie[0] in drawing and _meet(came[at], free):
            left.append(tie[0])
            free = past_tie(going, tie, (), drawing, True)
        going = free
    return tuple(reversed(left))


def _ties_used(ring, inside, outside, touching):
    """The LINES at which wires touch, or cross, in some FULL LOT that has inside and not outside."""
    came = ways_from_first(ring, inside, outside)
    going = ways_to_last(ring, inside, outside)
    if last_order(ring) not in came[-1]:
        raise CanNot()
    used = {}
    for at, (line, lane) in enumerate(ties_in(ring)):
        if touching and line not in outside and _meet(came[at], going[at + 1]):
            used[line] = True
        if not touching and line not in inside:
            crossed = {crossed_at(order, lane): True for order in came[at] if order[lane - 1] < order[lane]}
            if _meet(crossed, going[at + 1]):
                used[line] = True
    return used


def _meet(ways, others):
    """Whether some order of wires is in both."""
    return any([order in others for order in ways])


def _told_sides(ring, inside, outside):
    """The three, the last two DRAWINGS; TooMany if ring has too many lanes."""
    ring = told_ring(ring)
    inside = told_drawing(ring, inside)
    outside = told_drawing(ring, outside)
    ask_lanes(ring)
    return (ring, inside, outside)


def _told_both(ring, lot, full, other):
    """The four, the last two FULL LOTS that have lot."""
    ring = told_ring(ring)
    lot = told_lot(ring, lot)
    return (ring, lot, _told_full_with(ring, lot, full), _told_full_with(ring, lot, other))


def _told_full_with(ring, lot, value):
    """value, a FULL LOT that has all LINES of lot."""
    full = told_full(ring, value)
    if not all([line in full for line in lot]):
        raise Unfit()
    return full
