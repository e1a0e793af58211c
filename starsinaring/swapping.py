"""Exchanges of full lots, for values that are known to be fit."""

from starsinaring.checks import ask_few, fits_line_pair
from starsinaring.crossing import all_long
from starsinaring.wiring import lines_crossed, lines_touched, plain_wires


def newcomers(ring, lot):
    """For each LINE of lot, ascending, the one that comes for it."""
    pairs, _ = plain_wires(ring, lot)
    crossed = lines_crossed(lot, pairs)
    # the wires that touch at a LINE are the two STARS with it: the LINE that meets these is where they cross
    return {line: crossed[tuple(sorted(pairs[line]))] for line in lot}


def swapped(lot, gone, come):
    """lot with come in the place of gone."""
    return tuple(sorted([come if line == gone else line for line in lot]))


def step_down(ring, lot, kept=()):
    """The EXCHANGE of the least LINE of lot, none of kept, that falls; None if none falls."""
    news = newcomers(ring, lot)
    for line in lot:
        if news[line] < line and line not in kept:
            return (line, news[line])
    return None


def steps_down(ring, lot, kept=()):
    """All EXCHANGES, one behind another, that lead from lot down to the least FULL LOT with the LINES of kept."""
    steps = []
    step = step_down(ring, lot, kept)
    while step is not None:
        steps.append(step)
        lot = swapped(lot, *step)
        step = step_down(ring, lot, kept)
    return steps


def row_between(ring, lot, other, kept=()):
    """A tuple of EXCHANGES that leads from lot to other; none takes a LINE of kept, of both, away."""
    down = steps_down(ring, lot, kept)
    back = steps_down(ring, other, kept)
    # both ways lead to the same FULL LOT: from where they meet on, by the same steps
    while down and back and down[-1] == back[-1]:
        down.pop()
        back.pop()
    return tuple(down + [(come, gone) for gone, come in reversed(back)])


def led_on(ring, lot, row, kept=()):
    """How many EXCHANGES of row, that take no LINE of kept away, lead on from lot, and to which FULL LOT."""
    for number, (gone, come) in enumerate(row):
        if gone in kept or newcomers(ring, lot).get(gone) != come:
            return (number, lot)
        lot = swapped(lot, gone, come)
    return (len(row), lot)


def fits_led(ring, lot, other, thing, kept=()):
    """Whether thing is a tuple of EXCHANGES, none of which takes a LINE of kept away, that leads from lot to other."""
    if not isinstance(thing, tuple) or not all([fits_line_pair(ring, own) for own in thing]):
        return False
    return led_on(ring, lot, thing, kept) == (len(thing), other)


def sons_of(ring, lot):
    """The set of the FULL LOTS whose father is lot."""
    found = []
    for line, come in newcomers(ring, lot).items():
        son = swapped(lot, line, come)
        if line < come and step_down(ring, son) == (come, line):
            found.append(son)
    return tuple(sorted(found))


def least_full_with(ring, lot):
    """The least FULL LOT that has all LINES of lot, a LOT."""
    # wires that go back from the last tie and cross wherever they can are left with the least LINES to touch at
    return lines_touched(ring, lot, all_long(ring)[::-1])


def all_full_with(ring, lot):
    """All FULL LOTS that have all LINES of lot, a LOT, ascending; TooMany if they are not few."""
    level = [least_full_with(ring, lot)]
    found = {level[0]: True}
    # each of them leads down to the least one by EXCHANGES that keep lot: so those that rise lead to all
    while level:
        behind = []
        for own in level:
            for line, come in newcomers(ring, own).items():
                more = swapped(own, line, come)
                if line < come and line not in lot and more not in found:
                    found[more] = True
                    behind.append(more)
                    ask_few(len(found))
        level = behind
    return sorted(found)
