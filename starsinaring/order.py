"""Full lots in order: each leads, from father to father, to the least one."""

from starsinaring.checks import ask_few, told_ring
from starsinaring.putting import fan_of, how_many_full_lots, told_full, told_full_with
from starsinaring.swapping import newcomers, sons_of, step_down, steps_down, swapped


def least_full(ring):
    """The least FULL LOT."""
    return fan_of(told_ring(ring), 0)


def greatest_full(ring):
    """The greatest FULL LOT."""
    ring = told_ring(ring)
    return fan_of(ring, ring[0] - ring[1])


def falling(ring, lot):
    """The set of the LINES of lot for which a lesser one comes."""
    ring = told_ring(ring)
    news = newcomers(ring, told_full(ring, lot))
    return tuple([line for line in news if news[line] < line])


def rising(ring, lot):
    """The set of the LINES of lot for which a greater one comes."""
    ring = told_ring(ring)
    news = newcomers(ring, told_full(ring, lot))
    return tuple([line for line in news if news[line] > line])


def does_fall(ring, lot, line):
    """Whether a lesser LINE comes for line."""
    ring, lot, line = told_full_with(ring, lot, line)
    return newcomers(ring, lot)[line] < line


def father(ring, lot):
    """The FULL LOT to which the EXCHANGE of the least LINE that falls leads; None if none falls."""
    ring = told_ring(ring)
    lot = told_full(ring, lot)
    step = step_down(ring, lot)
    return None if step is None else swapped(lot, *step)


def sons(ring, lot):
    """The set of the FULL LOTS whose father is lot."""
    ring = told_ring(ring)
    return sons_of(ring, told_full(ring, lot))


def fathers_row(ring, lot):
    """lot, its father, the father of this one, and so on, to the least FULL LOT."""
    ring = told_ring(ring)
    lot = told_full(ring, lot)
    row = [lot]
    for gone, come in steps_down(ring, lot):
        row.append(swapped(row[-1], gone, come))
    return tuple(row)


def how_deep(ring, lot):
    """How many FULL LOTS are behind lot in its fathers_row."""
    return len(way_down(ring, lot))


def way_down(ring, lot):
    """The EXCHANGES by which one goes through fathers_row."""
    ring = told_ring(ring)
    return tuple(steps_down(ring, told_full(ring, lot)))


def tree_under(ring, lot):
    """How many FULL LOTS have lot in their fathers_row, and how deep the deepest of them is."""
    ring = told_ring(ring)
    lot = told_full(ring, lot)
    ask_few(how_many_full_lots(ring))
    many, deep = 0, len(steps_down(ring, lot)) - 1
    level = [lot]
    while level:
        many += len(level)
        deep += 1
        level = [son for own in level for son in sons_of(ring, own)]
    return (many, deep)
