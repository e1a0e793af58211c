"""Rings for tests: small ones, all whose lots are tried, and great ones, with lots of many kinds."""

from functools import lru_cache

from starsinaring import filling
from tests import plain

SMALL = [(3, 1), (4, 1), (5, 1), (5, 2), (6, 1), (6, 2), (7, 1), (7, 2), (7, 3), (8, 3), (9, 4), (10, 4)]
GREAT = [(40, 1), (40, 2), (40, 5), (40, 9), (40, 13), (40, 17), (40, 19), (39, 18), (39, 19), (38, 3)]


# (n, k, step): every so manyth LOT of further rings
FURTHER = [(8, 1, 11), (8, 2, 13), (9, 3, 7), (9, 2, 401), (10, 3, 501)]
# great rings of one to six lanes
NARROW = [(40, 17), (39, 17), (36, 15), (40, 18), (37, 17), (38, 18), (40, 19), (39, 19)]
FURTHER_FULL = [(8, 1, 5), (8, 2, 3), (9, 3, 1), (9, 2, 29), (10, 3, 41), (11, 4, 5)]


def some_lots():
    """RINGS and LOTS of them: all of small ones, some and some FULL ones of further ones."""
    found = [(ring, lot) for ring in SMALL for lot in plain.all_lots(ring)]
    for n, k, step in FURTHER:
        found += [((n, k), lot) for lot in plain.all_lots((n, k))[::step] + plain.full_lots((n, k))[::step]]
    return found


def some_full_lots():
    """RINGS and FULL LOTS of them: all of small ones, some of further ones."""
    found = [(ring, lot) for ring in SMALL for lot in plain.full_lots(ring)]
    for n, k, step in FURTHER_FULL:
        found += [((n, k), lot) for lot in plain.full_lots((n, k))[::step]]
    return found


@lru_cache(maxsize=None)
def great_full_lots(ring):
    """FULL LOTS of a great ring: the least and the greatest one, and one that is neither fan nor turned fan."""
    n, k = ring
    long = [(a, b) for a in range(n) for b in range(a + 1, n) if k < b - a < n - k]
    least = tuple(line for line in long if line[0] < k)
    last = tuple(line for line in long if line[1] >= n - k)
    mixed = filling.filled_by(ring, (), tuple(long[at * 7 % len(long)] for at in range(len(long)))) if len(long) % 7 else last
    return (least, last, mixed)
