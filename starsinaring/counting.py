"""Ways of the wires through all ties that lead to full lots, for values that are known to be fit.

At each tie two wires touch or cross. The FULL LOTS are the ways on which each two wires cross just once:
a lower number is below till then, so the order of the wires alone tells how one may go on.
"""

from starsinaring.checks import ask_few
from starsinaring.crossing import all_long
from starsinaring.errors import TooMany
from starsinaring.putting import how_many_full_lots
from starsinaring.wiring import lanes_in

_MOST_LANES = 6


def ask_lanes(ring):
    """Raises TooMany if ring has more lanes than orders of the wires are told for."""
    if lanes_in(ring) > _MOST_LANES:
        raise TooMany()


def ask_few_full(ring):
    """Raises TooMany if the FULL LOTS of ring are not few."""
    ask_few(how_many_full_lots(ring))


def ties_in(ring):
    """All ties, as wires come to them: pairs of the LINE and the lower lane."""
    return [((a, b), b - a - ring[1]) for a, b in all_long(ring)]


def first_order(ring):
    """The wires, from lane 1 up, at the beginning."""
    return tuple(range(1, lanes_in(ring) + 1))


def last_order(ring):
    """The wires, from lane 1 up, when each two have crossed."""
    return first_order(ring)[::-1]


def crossed_at(order, lane):
    """order with the wires on lane and on the one above it exchanged."""
    return order[:lane - 1] + (order[lane], order[lane - 1]) + order[lane + 1:]


def past_tie(ways, tie, inside, outside, back):
    """How many ways lead to each order on one side of a tie, if ways tells it of the other side.

    They lead from ahead of the tie to behind it, or, if back, from behind it to ahead of it; wires touch
    there if its LINE is of inside, they do not if it is of outside.
    """
    line, lane = tie
    past = {} if line in outside else {order: ways[order] for order in ways}
    if line in inside:
        return past
    for order, many in ways.items():
        # two wires that cross here are not yet crossed ahead of it, and are behind it
        if (order[lane - 1] > order[lane]) == back:
            other = crossed_at(order, lane)
            past[other] = past.get(other, 0) + many
    return past


def ways_from_first(ring, inside, outside):
    """Ahead of each tie, and at the end, how many ways lead from the beginning to each order of the wires."""
    ways = [{first_order(ring): 1}]
    for tie in ties_in(ring):
        ways.append(past_tie(ways[-1], tie, inside, outside, False))
    return ways


def ways_to_last(ring, inside, outside):
    """Ahead of each tie, and at the end, how many ways lead from each order of the wires to the end."""
    ways = [{last_order(ring): 1}]
    for tie in reversed(ties_in(ring)):
        ways.append(past_tie(ways[-1], tie, inside, outside, True))
    return ways[::-1]


def how_many_ways(ring, inside, outside):
    """How many FULL LOTS have all LINES of inside and none of outside."""
    return ways_from_first(ring, inside, outside)[-1].get(last_order(ring), 0)


def lot_of_way(ring, ways, outside, number):
    """The FULL LOT than which just number of those told by ways, to the end, without outside, are less."""
    lot = []
    order = first_order(ring)
    for at, (line, lane) in enumerate(ties_in(ring)):
        # of FULL LOTS that are alike so far those with this LINE are the lesser ones
        touching = 0 if line in outside else ways[at + 1].get(order, 0)
        if number < touching:
            lot.append(line)
        else:
            number -= touching
            order = crossed_at(order, lane)
    return tuple(lot)


def number_of_way(ring, ways, lot):
    """How many of the FULL LOTS told by ways, to the end, are less than lot."""
    number = 0
    order = first_order(ring)
    for at, (line, lane) in enumerate(ties_in(ring)):
        if line not in lot:
            number += ways[at + 1].get(order, 0)
            order = crossed_at(order, lane)
    return number
