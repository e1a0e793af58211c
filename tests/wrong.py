"""Values that are none of what an argument asks for, each for one reason alone."""

from tests import plain


def nested(levels, inmost):
    """inmost in tuples, so many levels deep."""
    for _ in range(levels):
        inmost = (inmost,)
    return inmost


class Odd:
    """An object that is nothing that the document speaks of."""


NO_TUPLES = (None, True, 5, 2.5, "", "ab", b"ab", {}, {0: 1}, set(), frozenset([1, 2]), Odd(), range(2))
NO_NUMBERS = (True, False, None, "", "1", "x", 1.0, b"1", (), [], (1,), [1], {}, Odd(), nested(20, 1))
NO_COUNTS = NO_NUMBERS + (-1, -10 ** 6)
NO_PAIRS = NO_COUNTS + (1001, 1002, 2000, 10 ** 6, 10 ** 30, 10 ** 1000)


def pairs_like(good):
    """Values that are no pair of numbers, but for one thing like good."""
    a, b = good
    found = [own for own in NO_TUPLES]
    found += [(), (a,), (a, b, b), (good,), (good, good), nested(20, good), [[a, b]], str(good), {a: b}, iter(good)]
    found += [(own, b) for own in (None, str(a), float(a), (a,), [a])]
    found += [(a, own) for own in (None, str(b), float(b), (b,), [b])]
    found += [[own, b] for own in (None, float(a))] + [[a, own] for own in (None, float(b))]
    return found


def no_rings(ring):
    n, k = ring
    found = pairs_like(ring)
    found += [(n, 0), (n, -1), (n, -k), (2 * k, k), (-n, k), (0, k), (0, 0), (n, n), (k, n), (n, (n + 1) // 2)]
    return found + [(n, True), (3, True), (True, 1), (True, True), (n, False), [n, True]]


def no_lines(ring):
    n, _ = ring
    found = []
    for a, b in ((0, n - 1), (1, 2), (0, 3), (1, 4), (n - 4, n - 1)):
        found += pairs_like((a, b)) + [(b, a), [b, a], (a, a), (b, b)]
    found += [(-1, 3), (-3, 0), (-2, -1), (0, n), (n - 1, n), (n - 3, n), [n - 3, n], (n, n + 1), (0, 10 ** 6)]
    return found + [(False, 3), (False, 4), (True, 4), (True, 5), (0, True), (False, True), [True, 4]]


def no_sets_like(ring, first, last):
    """What is no set of LINES, but for one thing like (first, last), an ascending pair of LINES."""
    found = [own for own in NO_TUPLES]
    found += [{first: True}, {first}, iter(()), first, list(first), nested(20, first), nested(19, ()), ((first, last),)]
    for line in no_lines(ring):
        found += [(line,), [line]]
    for line in ((0, ring[0]), (first[0], True), None, first[::-1], (*first, 1), [1, 1], (), nested(18, first)):
        found += [(first, line), (line, last), (first, line, last)]
    found += [(last, first), [last, first], (first, first), [list(last), list(last)], (first, last, last), (first, first, last)]
    return found + [(first, last, first), (first, list(first)), (first, (last,))]


def no_sets_of_lines(ring):
    n, _ = ring
    return no_sets_like(ring, (0, 1), (n - 2, n - 1)) + no_sets_like(ring, (0, 3), (1, 4))


def no_drawings(ring):
    n, k = ring
    first, last = (0, k + 1), (n - k - 2, n - 1)
    found = no_sets_like(ring, first, last)
    for line in ((0, 1), (0, k), (1, k), (1, k + 1), (0, n - 1), (0, n - k), (1, n - k + 1), (n - k - 1, n - 1)):
        found += [(line,), tuple(sorted((first, line))), tuple(sorted((line, last))), tuple(sorted((first, line, last)))]
    return found


def no_long_rows(ring):
    n, k = ring
    first, last = (0, k + 1), (n - k - 2, n - 1)
    both = ((first, last), (last, first))
    # whatever their order, LINES may stand in a row
    found = [own for own in no_drawings(ring) if own not in both and own not in tuple(list(pair) for pair in both)]
    return found + [(last, first, last), (first, last, first), (last, last), [list(last), first, last]]


def no_lots(ring):
    n, k = ring
    crowd = tuple((a, a + n // 2) for a in range(k + 1))
    every = tuple((a, b) for a in range(n) for b in range(a + 1, n) if k < b - a < n - k)
    found = [crowd, [list(own) for own in crowd], tuple(sorted({*crowd, (0, k + 1)})), every, every[1:]]
    return no_drawings(ring) + found


def no_full_lots(ring):
    n, k = ring
    fan = tuple((a, b) for a in range(k) for b in range(a + k + 1, n) if b - a < n - k)
    less = [tuple(own for own in fan if own != line) for line in fan]
    return no_lots(ring) + [(), []] + less + [fan[:1], [list(own) for own in fan[1:]]]


def no_crowds(ring):
    n, _ = ring
    found = no_sets_of_lines(ring)
    return found + [((0, 1), (0, 2)), ((0, 1), (n - 2, n - 1)), ((0, n - 1), (1, n - 2)), ((0, 2), (1, 2))]


def no_ends(ring):
    found = [own for own in NO_TUPLES] + [(own, 5) for own in NO_NUMBERS] + [(0, own) for own in NO_NUMBERS]
    found += [(1,), (0, 1, 2), [0, 1, 2], (1, 0), (1, 1), (0, 1, 1, 2), (0, 2, 1, 3), (0, 1, 2, 3, 4), (-1,), (ring[0],)]
    return found + [((0, 1),), ((0,), (1,)), nested(20, 0), {0: 1}, {0, 1}]


def no_corners(ring):
    """What is no CORNER of the LOT of [samples.py], but for one thing like (5, 7, 1) or (0, 3, 6)."""
    found = [own for own in NO_TUPLES] + [(), (5,), (5, 7), (5, 7, 1, 1), (5, 7, 1, 4), ((5, 7, 1),), nested(20, 5), {5: 7, 7: 1, 1: 5}]
    for at in range(3):
        for own in (None, True, False, "5", 5.0, (5,), [5], nested(19, 5), -1, -3, ring[0], ring[0] + 5, 10 ** 6):
            found += [(5, 7, 1)[:at] + (own,) + (5, 7, 1)[at + 1:], [0, 3, 6][:at] + [own] + [0, 3, 6][at + 1:]]
    found += [(5, 1, 7), (7, 1, 5), (1, 5, 7)[::-1], (5, 2, 1), (5, 7, 2), (5, 1, 3), (5, 5, 1), (5, 7, 7), (0, 6, 3), (0, 2, 6)]
    return found + [(0, 0, 2), (0, 6, 0), (False, 3, 6), (0, 3, 4), [0, 4, 6], (6, 7, 4), (5.0, 7, 1), (5, 7, True), (True, 3, 5)]


def no_stars(ring):
    n, k = ring
    star, other = (0, 1, 2, 3, 5), (1, 3, 4, 6, 7)
    found = [own for own in NO_TUPLES] + [(star,), [list(star)], nested(20, 0), {0: 1, 1: 2, 2: 3, 3: 5, 5: 0}, set(star), iter(star)]
    for own in (star, other):
        found += [own[:-1], own[1:], own + (n,), tuple(sorted({*own, 2, 4})), own[::-1], list(own[::-1]), own[1:] + own[:1]]
        found += [own[:4] + own[3:4], own[:1] + own[:4], own[:4] + (n,), (-1,) + own[1:], own[:4] + (10 ** 6,), (-10 ** 6,) + own[1:]]
        for at in range(len(own)):
            for bad in (None, str(own[at]), float(own[at]), (own[at],), [own[at]], nested(18, own[at])):
                found += [own[:at] + (bad,) + own[at + 1:], list(own[:at]) + [bad] + list(own[at + 1:])]
    return found + [(False, 1, 2, 3, 5), (0, True, 2, 3, 5), (True, 3, 4, 6, 7), [0, True, 2, 3, 5], tuple(range(n)), (0,) * 5]


def no_groups(ring):
    star, other = (0, 1, 2, 3, 5), (1, 3, 4, 6, 7)
    found = [own for own in NO_TUPLES] + [star, list(star), {star: True}, {star}, iter(()), ((star, other),), nested(20, star)]
    for own in no_stars(ring):
        found += [(own,), [own]]
    for own in (None, star[::-1], star[1:], star + (6,), (0, 1, 2, 3, 8), (False, 1, 2, 3, 5), 0, (star,)):
        found += [(own, other), (star, own), (star, own, other)]
    return found + [(other, star), (star, star), [list(star), list(star)], (star, other, other), (star, other, star)]


def no_tables(ring):
    n, k = ring
    table = plain.told_crossings(ring, ((0, 3), (0, 4), (0, 5), (1, 5), (2, 5), (4, 7)))
    many = len(table)
    found = [own for own in NO_TUPLES] + [(), table[1:], table + table[:1], table[::-1], table[0], (table,), nested(20, None)]
    found += [tuple(row[1:] for row in table), tuple(row + row[:1] for row in table), tuple(row[::-1] for row in table), (None,) * many]
    found += [tuple(tuple(None for _ in row) for row in table), ((0, k + 1),) * many, (((0, k + 1),) * many,) * many]
    bad = [own for own in no_lines(ring)] + [(0, 1), (0, k), (1, k), (0, n - 1), (n - k - 1, n - 1), [0, k]]
    for at, far in ((0, 1), (1, 0), (2, 3), (many - 1, 0), (many - 2, many - 1)):
        found += [_replaced(table, at, far, own) for own in bad]
    for at in range(many):
        found += [_replaced(table, at, at, own) for own in (0, False, (), "", (0, k + 1), [0, k + 1], (None,))]
        found += [table[:at] + (own,) + table[at + 1:] for own in (None, (), table[at][1:], table[at] + (None,), 3, list(table[at][:-1]))]
    return found


def no_exchange_rows(ring):
    n, k = ring
    good, other = ((2, 5), (1, 4)), ((1, 5), (3, 7))
    found = [own for own in NO_TUPLES] + [good, list(good), ((good,),), (good, (other,)), {good: other}, iter(()), nested(20, good)]
    bad = [own for own in NO_TUPLES] + [(), good[:1], (*good, good[0]), (good[0], good[0]), good + other, [good[1], good[1]], (5, 1)]
    bad += [((2, 5, 1, 4),), (2, 5, 1, 4), (good,), (good, other), (good[0], 1), (1, good[1]), {good[0]: good[1]}, nested(18, good)]
    for line in no_lines(ring) + [(0, 1), (0, k), (1, k), (0, n - 1), (n - k - 1, n - 1), [0, k], ()]:
        bad += [(line, good[1]), (good[0], line)]
    for own in bad:
        found += [(own,), (good, own, other)]
    return found


def no_sets_of_wires(ring):
    top = ring[0] - 2 * ring[1]
    found = [own for own in NO_TUPLES] + [(own,) for own in NO_NUMBERS] + [(own, top) for own in NO_NUMBERS]
    found += [(1, own) for own in NO_NUMBERS] + [(0,), (0, 1), (-1,), (-1, 2), (top + 1,), (1, top + 1), (10 ** 6,), (2, 1), [2, 1]]
    return found + [(1, 1), [top, top], (1, 3, 2), (1, 2, 2), ((1, 2),), ((1,), (2,)), nested(20, 1), {1: 2}, {1, 2}, iter((1, 2))]


def no_prices(ring):
    good = tuple(range(-1, ring[0] - 2 * ring[1] - 1))
    found = [own for own in NO_TUPLES] + [(), good[1:], good + (0,), list(good[1:]), [*good, 0], good + good, (good,), nested(20, 1)]
    for at in (0, 1, len(good) - 1):
        for own in NO_NUMBERS:
            found += [good[:at] + (own,) + good[at + 1:], [*good[:at], own, *good[at + 1:]]]
    return found + [{own: own for own in good}, set(good), iter(good)]


def no_full_lots_with(ring):
    """What is no FULL LOT with the LOT of [samples.py]."""
    lot = ((0, 3), (1, 5), (2, 5), (4, 7))
    others = [own for own in plain.full_lots(ring) if not set(lot) <= set(own)]
    return no_full_lots(ring) + others[::3] + [[list(line) for line in others[1]]]


def no_lots_two_short(ring):
    """What is no LOT with two LINES less than a FULL one."""
    full = ((0, 3), (0, 4), (0, 5), (1, 5), (2, 5), (4, 7))
    return no_lots(ring) + [(), [], full, full[1:], full[3:], full[:1], [list(own) for own in full], full[:2] + full[3:]]


def no_ends_at(ring):
    """What is no tuple of k points, but for one thing like (4, 7)."""
    found = [own for own in NO_TUPLES] + [(own, 7) for own in NO_NUMBERS] + [(4, own) for own in NO_NUMBERS] + [[4, own] for own in NO_NUMBERS]
    found += [(), (4,), (7,), (4, 7, 7), (4, 5, 7), [4], [4, 5, 7], (-1, 7), (4, -1), (4, ring[0]), (10 ** 6, 7), ((4, 7),), nested(20, 4)]
    return found + [((4,), (7,)), {4: 7, 7: 4}, {4, 7}, iter((4, 7)), range(4, 6)]


def no_ends_rows(ring):
    """What is no tuple of n - 2k - 1 tuples of k numbers, but for one thing like ((2, 4), (2, 3), (2, 4))."""
    good = ((2, 4), (2, 3), (2, 4))
    found = [own for own in NO_TUPLES] + [(), good[1:], good + good[:1], list(good[1:]), (2, 4, 2), (good,), nested(20, 2), good[0], (2, 3, 2, 4, 2, 4)]
    bad = [own for own in NO_TUPLES] + [(), (2,), (2, 3, 4), [2], [2, 3, 4], 23, ((2, 3),), ((2,), (3,)), {2: 3, 3: 2}, {2, 3}, nested(19, 2)]
    for own in NO_NUMBERS:
        bad += [(own, 3), (2, own), [2, own]]
    for at in range(3):
        found += [good[:at] + (own,) + good[at + 1:] for own in bad]
    return found + [{0: good[0], 1: good[1], 2: good[2]}]


def no_sets_of_points(ring):
    n, _ = ring
    found = [own for own in NO_TUPLES] + [(own,) for own in NO_NUMBERS] + [(0, own) for own in NO_NUMBERS] + [(own, n - 1) for own in NO_NUMBERS]
    found += [(n,), (-1,), (-1, 0), (0, n), [0, n], (10 ** 6,), (-10 ** 6, 0), (1, 0), [3, 2], (0, 0), (0, 3, 3), (0, 3, 1), ((0, 3),), ((0,), (3,))]
    return found + [nested(20, 0), {0: 1}, {0, 1}, iter((0, 3))]


def no_sheets(ring):
    lot, swap = ((0, 3), (1, 5), (2, 5), (4, 7)), ((2, 5), (1, 4))
    found = [own for own in NO_TUPLES] + [(), (ring,), (ring, ()), (ring, (), (), ()), (ring, lot, ()), (ring, (), (swap,)), ((), ring, ()), nested(20, ()), {0: ring}]
    found += [(own, (lot,), ((swap,),)) for own in no_rings(ring)] + [(ring, (own,), ()) for own in no_lots(ring)] + [(ring, (lot, own), ((swap,),)) for own in no_lots(ring)]
    found += [(ring, own, ()) for own in NO_TUPLES] + [(ring, (), own) for own in NO_TUPLES] + [(ring, (lot,), (own,)) for own in no_exchange_rows(ring)]
    return found + [[list(ring), [[]], [[], own]] for own in no_exchange_rows(ring)]


def no_claims(ring):
    full = ((0, 3), (0, 4), (0, 5), (1, 5), (2, 5), (4, 7))
    lot, star, line, other = full[2:], (0, 1, 2, 3, 5), (1, 5), (2, 7)
    found = [own for own in NO_TUPLES] + [(), ("lot",), ("lot", ring), ("lot", ring, lot, lot), ("lots", ring, lot), (None, ring, lot), (("lot",), ring, lot), ([], ring, lot), ({}, ring, lot)]
    found += [("full", ring), ("star", ring, full), ("exchange", ring, full, line), ("out", ring, lot), ("out", ring, lot, other, other), nested(20, "lot"), {"lot": ring}]
    for own in no_rings(ring):
        found += [("lot", own, ()), ("full", own, ()), ("star", own, full, star), ("exchange", own, full, line, other), ["out", own, [], [0, 4]]]
    found += [("lot", ring, own) for own in no_drawings(ring)] + [("full", ring, own) for own in no_lots(ring)] + [("out", ring, own, other) for own in no_lots(ring)]
    for own in no_full_lots(ring):
        found += [("star", ring, own, star), ["exchange", ring, own, line, other]]
    for own in no_lines(ring) + [(0, 1), (0, ring[1]), (0, ring[0] - 1), [0, ring[1]]]:
        found += [("exchange", ring, full, own, other), ("exchange", ring, full, line, own), ["out", ring, lot, own]]
    found += [("exchange", ring, full, own, other) for own in ((1, 4), (3, 7), other)] + [("exchange", ring, full, line, own) for own in full]
    return found + [("out", ring, lot, own) for own in lot] + [("star", ring, full, own) for own in no_stars(ring)]


def no_rows_of_claims(ring):
    good = ("lot", ring, ())
    found = [own for own in NO_TUPLES] + [good, list(good), {0: good}, iter(()), nested(20, ()), ((good,),)]
    for own in no_claims(ring)[::3]:
        found += [(own,), (good, own), [("lot", ring, ((0, 4), (1, 5), (2, 6))), own, good]]
    return found


def _replaced(table, at, far, value):
    row = table[at][:far] + (value,) + table[at][far + 1:]
    return table[:at] + (row,) + table[at + 1:]


WRONG = {
    "ring": no_rings,
    "line": no_lines,
    "lines": no_sets_of_lines,
    "drawing": no_drawings,
    "longrow": no_long_rows,
    "lot": no_lots,
    "full": no_full_lots,
    "crowd": no_crowds,
    "ends": no_ends,
    "corner": no_corners,
    "star": no_stars,
    "group": no_groups,
    "table": no_tables,
    "row": no_exchange_rows,
    "wires": no_sets_of_wires,
    "prices": no_prices,
    "fullwith": no_full_lots_with,
    "twoshort": no_lots_two_short,
    "endsat": no_ends_at,
    "endsrow": no_ends_rows,
    "spots": no_sets_of_points,
    "sheet": no_sheets,
    "claim": no_claims,
    "claims": no_rows_of_claims,
    "number": lambda ring: NO_NUMBERS,
    "count": lambda ring: NO_COUNTS,
    "pairs": lambda ring: NO_PAIRS,
}


def wrong_values(kind, ring):
    """Values that are none of this kind; none are told of a thing."""
    return WRONG[kind](ring) if kind in WRONG else ()
