"""Runs: the long lines in order, as ties between lanes."""

from starsinaring.checks import ask_between, ask_long, fits_pair, told_line, told_number, told_ring
from starsinaring.crossing import all_long, joined
from starsinaring.errors import CanNot
from starsinaring.wiring import ask_run, lanes_in, runs_in, ties_of


def how_many_lanes(ring):
    """N."""
    return lanes_in(told_ring(ring))


def how_many_runs(ring):
    """How many runs there are."""
    return runs_in(told_ring(ring))


def how_many_ties(ring):
    """How many ties all runs have together."""
    return len(all_long(told_ring(ring)))


def run_of(ring, run):
    """The LINES of the run."""
    ring = told_ring(ring)
    told_number(run)
    ask_run(ring, run)
    return ties_of(ring, run)


def runs_of(ring):
    """All runs, run 0 first."""
    ring = told_ring(ring)
    return [ties_of(ring, run) for run in range(runs_in(ring))]


def run_end(ring, run):
    """The highest lane that a tie of the run leads to; 1 if it has none."""
    return len(run_of(ring, run)) + 1


def tie_of(ring, line):
    """The run whose tie line is, and the lower one of its lanes."""
    ring = told_ring(ring)
    a, b = _told_tie(ring, line)
    return (a, b - a - ring[1])


def is_tie(ring, thing):
    """Whether thing is tie_of some long LINE."""
    ring = told_ring(ring)
    return fits_pair(thing) and 0 <= thing[0] < runs_in(ring) and 1 <= thing[1] <= len(ties_of(ring, thing[0]))


def line_tied(ring, run, lane):
    """The LINE that is in this run the tie between lane and the one above it."""
    ring = told_ring(ring)
    told_number(run)
    told_number(lane)
    if not is_tie(ring, (run, lane)):
        raise CanNot()
    return ties_of(ring, run)[lane - 1]


def ties_above(ring, lane):
    """The LINES that are ties between lane and the one above it, run by run."""
    ring = told_ring(ring)
    ask_between(told_number(lane), 1, lanes_in(ring))
    return tuple([line for line in all_long(ring) if line[1] - line[0] - ring[1] == lane])


def upper_next(ring, line):
    """Where one stands next who leaves the tie of line on its upper lane."""
    ring = told_ring(ring)
    a, b = _told_tie(ring, line)
    return joined(a, (b + 1) % ring[0])


def lower_next(ring, line):
    """Where one stands next who leaves the tie of line on its lower lane."""
    ring = told_ring(ring)
    a, b = _told_tie(ring, line)
    return (a + 1, b)


def ties_met(ring, line, other):
    """The LINES of the ties behind line and ahead of other."""
    ring = told_ring(ring)
    line = told_line(ring, line)
    other = told_line(ring, other)
    ask_long(ring, line)
    ask_long(ring, other)
    return tuple([own for own in all_long(ring) if line < own < other])


def _told_tie(ring, line):
    line = told_line(ring, line)
    ask_long(ring, line)
    return line
