"""Exchanges of full lots, for values that are known to be fit."""

from starsinaring.wiring import lines_crossed, plain_wires


def newcomers(ring, lot):
    """For each LINE of lot, ascending, the one that comes for it."""
    pairs, _ = plain_wires(ring, lot)
    crossed = lines_crossed(lot, pairs)
    # the wires that touch at a LINE are the two STARS with it: the LINE that meets these is where they cross
    return {line: crossed[tuple(sorted(pairs[line]))] for line in lot}


def swapped(lot, gone, come):
    """lot with come in the place of gone."""
    return tuple(sorted([come if line == gone else line for line in lot]))


def step_down(ring, lot):
    """The EXCHANGE of the least LINE of lot that falls; None if none falls."""
    news = newcomers(ring, lot)
    for line in lot:
        if news[line] < line:
            return (line, news[line])
    return None


def steps_down(ring, lot):
    """All EXCHANGES, one behind another, that lead from lot to its father, and on to the least FULL LOT."""
    steps = []
    step = step_down(ring, lot)
    while step is not None:
        steps.append(step)
        lot = swapped(lot, *step)
        step = step_down(ring, lot)
    return steps


def sons_of(ring, lot):
    """The set of the FULL LOTS whose father is lot."""
    found = []
    for line, come in newcomers(ring, lot).items():
        son = swapped(lot, line, come)
        if line < come and step_down(ring, son) == (come, line):
            found.append(son)
    return tuple(sorted(found))
