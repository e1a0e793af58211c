"""Sets of lines turned and mirrored, for values that are known to be fit."""

from starsinaring.crossing import joined
from starsinaring.swapping import all_full_with


def turned_lines(n, lines, number):
    """lines with p + number in the place of each point p."""
    return tuple(sorted([joined((a + number) % n, (b + number) % n) for a, b in lines]))


def mirrored_lines(n, lines):
    """lines with n - 1 - p in the place of each point p."""
    return tuple(sorted([(n - 1 - b, n - 1 - a) for a, b in lines]))


def all_turned(n, lines):
    """lines turned by 0, 1, .. to n - 1."""
    return [turned_lines(n, lines, number) for number in range(n)]


def kinds_of(ring):
    """The FULL LOTS, ascending, that are the least of all those to which they can be turned; they must be few."""
    return [full for full in all_full_with(ring, ()) if full == min(all_turned(ring[0], full))]
