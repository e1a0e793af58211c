"""Rounds of full lots that differ in two lines, and how many exchanges lead from one to another."""

from starsinaring.checks import ask_of, told_line, told_ring
from starsinaring.counting import ask_few_full
from starsinaring.errors import Unfit
from starsinaring.putting import is_full_lot, size_of_full, told_full, told_lot
from starsinaring.starring import stars_with
from starsinaring.swapping import all_full_with, least_full_with, newcomers, swapped
from starsinaring.turning import kinds_of
from starsinaring.wiring import plain_wires


def round_of(ring, lot):
    """The FULL LOTS of the round of lot, from the least one on, next to it the lesser one of its neighbours."""
    ring = told_ring(ring)
    lot = told_lot(ring, lot)
    if len(lot) != size_of_full(ring) - 2:
        raise Unfit()
    least = least_full_with(ring, lot)
    # greater LINES come for both: the neighbour that keeps the lesser one is the lesser one
    stays, gone = [line for line in least if line not in lot]
    found = []
    full = least
    # of the two LINES that a FULL LOT has more one has just come: the other one leads on
    while not found or full != least:
        found.append(full)
        come = newcomers(ring, full)[gone]
        full = swapped(full, gone, come)
        stays, gone = come, stays
    return tuple(found)


def round_size(ring, lot):
    """How many FULL LOTS the round of lot has."""
    return len(round_of(ring, lot))


def rounds_at(ring, full):
    """All triples of two LINES of full, the lesser one first, and the size of the round of full without them."""
    ring = told_ring(ring)
    full = told_full(ring, full)
    news = newcomers(ring, full)
    pairs, _ = plain_wires(ring, full)
    found = []
    for at, line in enumerate(full):
        for other in full[at + 1:]:
            # the two wires that touch at a LINE are the two STARS that have it
            shared = len([wire for wire in pairs[line] if wire in pairs[other]])
            found.append((line, other, _size(ring, full, (line, other), shared, news)))
    return found


def shared_stars(ring, full, line, other):
    """The set of the STARS in full of which line and other are LINES."""
    ring = told_ring(ring)
    full = told_full(ring, full)
    line = told_line(ring, line)
    other = told_line(ring, other)
    ask_of(full, line)
    ask_of(full, other)
    theirs = stars_with(ring, full, other)
    return tuple([star for star in stars_with(ring, full, line) if star in theirs])


def fewest(ring, full, other):
    """The fewest EXCHANGES that lead from full to other."""
    return len(shortest_row(ring, full, other))


def shortest_row(ring, full, other):
    """A tuple of the fewest EXCHANGES that lead from full to other."""
    ring = told_ring(ring)
    full = told_full(ring, full)
    other = told_full(ring, other)
    ask_few_full(ring)
    came = _ways_to(ring, full, other)
    row = []
    while other != full:
        gone, come = came[other]
        row.append((gone, come))
        other = swapped(other, come, gone)
    return tuple(reversed(row))


def by_steps(ring, full):
    """How many FULL LOTS are 0, 1, 2, .. EXCHANGES away from full, to the farthest."""
    ring = told_ring(ring)
    full = told_full(ring, full)
    ask_few_full(ring)
    return tuple([len(level) for level in _levels(_table(ring), full)])


def far_apart(ring):
    """The greatest number of EXCHANGES that it takes, at the fewest, from one FULL LOT to another."""
    ring = told_ring(ring)
    ask_few_full(ring)
    table = _table(ring)
    # turned, FULL LOTS are as far from one another as before: one of each kind is enough to begin with
    return max([len(_levels(table, full)) for full in kinds_of(ring)]) - 1


def _size(ring, full, lines, shared, news):
    """The size of the round of full without lines, two of it that are in so many STARS together."""
    line, other = lines
    if shared != 1:
        return 3 if shared else 4
    # what comes for both is unlike: it meets unlike STARS
    both = [own for own in full if own not in lines] + [news[line], news[other]]
    return 4 if is_full_lot(ring, tuple(sorted(both))) else 5


def _ways_to(ring, full, other):
    """The EXCHANGE by which one comes to each FULL LOT that is no farther from full than other."""
    came = {full: None}
    level = [full]
    while other not in came:
        behind = []
        for own in level:
            for line, come in newcomers(ring, own).items():
                more = swapped(own, line, come)
                if more not in came:
                    came[more] = (line, come)
                    behind.append(more)
        level = behind
    return came


def _table(ring):
    """For each FULL LOT those to which one EXCHANGE leads."""
    table = {}
    for full in all_full_with(ring, ()):
        news = newcomers(ring, full)
        table[full] = [swapped(full, line, news[line]) for line in full]
    return table


def _levels(table, full):
    """The FULL LOTS 0, 1, 2, .. EXCHANGES away from full, to the farthest."""
    seen = {full: True}
    levels = []
    level = [full]
    while level:
        levels.append(level)
        behind = []
        for own in level:
            for other in table[own]:
                if other not in seen:
                    seen[other] = True
                    behind.append(other)
        level = behind
    return levels
