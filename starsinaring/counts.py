"""Counts of full lots, and full lots told by number."""

from math import comb

from starsinaring.checks import ask_few, ask_points, told_count, told_drawing, told_number, told_ring
from starsinaring.counting import (
    ask_lanes, crossed_at, first_order, how_many_ways, lot_of_way, number_of_way, ties_in, ways_to_last,
)
from starsinaring.errors import CanNot, Unfit
from starsinaring.putting import how_many_full_lots, told_full
from starsinaring.wiring import lanes_in

_MOST_PAIRS = 1000


def bracket_rows(number):
    """How many bracket rows of number pairs there are."""
    # asked ahead of comb, which takes long over great numbers
    if told_count(number) > _MOST_PAIRS:
        raise Unfit()
    return comb(2 * number, number) // (number + 1)


def how_many_full(ring):
    """How many FULL LOTS ring has."""
    return how_many_full_lots(told_ring(ring))


def is_sheaf(ring, thing):
    """Whether thing is a sheaf of ring."""
    ring = told_ring(ring)
    if not isinstance(thing, tuple) or len(thing) != ring[1]:
        return False
    if not all([_is_bracket_row(own, lanes_in(ring)) for own in thing]):
        return False
    return all([_lies_under(thing[at], thing[at + 1]) for at in range(len(thing) - 1)])


def sheaves(ring):
    """All sheaves of ring, ascending."""
    ring = told_ring(ring)
    # there are as many sheaves as FULL LOTS
    ask_few(how_many_full_lots(ring))
    rows = _bracket_rows_of(lanes_in(ring))
    found = [(row,) for row in rows]
    for _ in range(ring[1] - 1):
        found = [(*sheaf, row) for sheaf in found for row in rows if _lies_under(sheaf[-1], row)]
    return found


def how_many_with(ring, inside, outside):
    """How many FULL LOTS have all LINES of inside and none of outside."""
    ring = told_ring(ring)
    inside = told_drawing(ring, inside)
    outside = told_drawing(ring, outside)
    ask_lanes(ring)
    return how_many_ways(ring, inside, outside)


def full_at(ring, number):
    """The FULL LOT than which just number FULL LOTS are less."""
    ring = told_ring(ring)
    if told_count(number) >= how_many_full_lots(ring):
        raise CanNot()
    ask_lanes(ring)
    return lot_of_way(ring, ways_to_last(ring, (), ()), (), number)


def full_number(ring, lot):
    """How many FULL LOTS are less than lot."""
    ring, lot = _told_lanes(ring, lot)
    return number_of_way(ring, ways_to_last(ring, (), ()), lot)


def next_full(ring, lot):
    """The least FULL LOT greater than lot, None if there is none."""
    ring, lot = _told_lanes(ring, lot)
    ways = ways_to_last(ring, (), ())
    number = number_of_way(ring, ways, lot) + 1
    return lot_of_way(ring, ways, (), number) if number < how_many_full_lots(ring) else None


def by_point(ring, point):
    """How many FULL LOTS have 0, 1, 2, .. LINES one of whose ends is point."""
    ring = told_ring(ring)
    ask_points(ring, (told_number(point),))
    ask_lanes(ring)
    # turned, FULL LOTS are FULL LOTS: so it is as of point 0, whose long LINES are the ties of run 0
    ties = ties_in(ring)[:lanes_in(ring) - 1]
    ways = ways_to_last(ring, (), ())[len(ties)]
    rows = [(first_order(ring), 0)]
    for _, lane in ties:
        rows = [(order, many + 1) for order, many in rows] + [(crossed_at(order, lane), many) for order, many in rows]
    told = [0] * (len(ties) + 1)
    for order, many in rows:
        told[many] += ways[order]
    return tuple(told)


def _told_lanes(ring, lot):
    """ring and lot, a FULL LOT; TooMany if ring has too many lanes."""
    ring = told_ring(ring)
    lot = told_full(ring, lot)
    ask_lanes(ring)
    return (ring, lot)


def _is_bracket_row(thing, pairs):
    """Whether thing is a bracket row of so many pairs."""
    if not isinstance(thing, str) or len(thing) != 2 * pairs or thing.count(")") != pairs:
        return False
    # with so many ")", and never more of them than "(", all other signs are "("
    return all([2 * many >= at for at, many in enumerate(_opened(thing))])


def _opened(row):
    """How many "(" there are behind 0, 1, 2, .. signs of row."""
    many = [0]
    for sign in row:
        many.append(many[-1] + (1 if sign == "(" else 0))
    return many


def _lies_under(row, other):
    """Whether row lies under other, both bracket rows of as many pairs."""
    return all([own <= far for own, far in zip(_opened(row), _opened(other))])


def _bracket_rows_of(pairs):
    """All bracket rows of so many pairs, ascending."""
    rows = [""]
    for at in range(2 * pairs):
        longer = [row + sign for row in rows for sign in "()"]
        rows = [row for row in longer if row.count("(") <= pairs and 2 * row.count("(") > at]
    return rows
