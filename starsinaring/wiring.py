"""Ties, greedy wires and plain ones, for values that are known to be fit."""

from starsinaring.checks import ask_between


def lanes_in(ring):
    """How many lanes ring has."""
    return ring[0] - 2 * ring[1]


def runs_in(ring):
    """How many runs ring has."""
    return ring[0] - ring[1] - 1


def ties_of(ring, run):
    """The LINES of a run."""
    n, k = ring
    return tuple([(run, b) for b in range(run + k + 1, min(n, run + n - k))])


def wire_orders(ring, drawing):
    """The greedy wires, from lane 1 up: at the beginning, and behind each run."""
    touched = set(drawing)
    order = list(range(1, lanes_in(ring) + 1))
    orders = [tuple(order)]
    for run in range(runs_in(ring)):
        for lane, line in enumerate(ties_of(ring, run), start=1):
            # the lesser wire begins below: it is still there only if both have not yet crossed
            if line not in touched and order[lane - 1] < order[lane]:
                order[lane - 1], order[lane] = order[lane], order[lane - 1]
        orders.append(tuple(order))
    return orders


def all_wires_cross(ring, drawing):
    """Whether each two greedy wires come to cross: whether drawing is a LOT."""
    last = wire_orders(ring, drawing)[-1]
    return list(last) == list(reversed(range(1, lanes_in(ring) + 1)))


def plain_wires(ring, drawing):
    """For each long LINE the two plain wires at its tie, the lower one first; and all, from lane 1 up, at the end."""
    touched = set(drawing)
    order = list(range(1, lanes_in(ring) + 1))
    pairs = {}
    for run in range(runs_in(ring)):
        for at, line in enumerate(ties_of(ring, run)):
            pairs[line] = (order[at], order[at + 1])
            if line not in touched:
                order[at], order[at + 1] = order[at + 1], order[at]
    return (pairs, tuple(order))


def lines_crossed(lot, pairs):
    """For each two wires, the lesser one first, the LINE at which they cross; pairs those of a FULL LOT."""
    touched = set(lot)
    # each two cross just once: till then the lesser one is below
    return {pairs[line]: line for line in pairs if line not in touched}


def lines_touched(ring, drawing, lines):
    """The set of the LINES at which greedy wires touch that go through lines, all long ones, in this order."""
    touched = set(drawing)
    order = list(range(1, lanes_in(ring) + 1))
    found = []
    for a, b in lines:
        lane = b - a - ring[1]
        if (a, b) in touched or order[lane - 1] > order[lane]:
            found.append((a, b))
        else:
            order[lane - 1], order[lane] = order[lane], order[lane - 1]
    return tuple(sorted(found))


def ask_run(ring, run):
    """Raises CanNot if run is none."""
    ask_between(run, 0, runs_in(ring) - 1)
