"""Values that are none of what an argument asks for, each for one reason alone."""


def nested(levels, inmost):
    """inmost in tuples, so many levels deep."""
    for _ in range(levels):
        inmost = (inmost,)
    return inmost


class Odd:
    """An object that is nothing that the document speaks of."""


NO_TUPLES = (None, True, 5, 2.5, "", "ab", b"ab", {}, {0: 1}, set(), frozenset([1, 2]), Odd(), range(2))
NO_NUMBERS = (True, False, None, "", "1", "x", 1.0, b"1", (), [], (1,), [1], {}, Odd(), nested(20, 1))
NO_COUNTS = NO_NUMBERS + (-1, -10 ** 6)


def pairs_like(good):
    """Values that are no pair of numbers, but for one thing like good."""
    a, b = good
    found = [own for own in NO_TUPLES]
    found += [(), (a,), (a, b, b), (good,), (good, good), nested(20, good), [[a, b]], str(good), {a: b}, iter(good)]
    found += [(own, b) for own in (None, str(a), float(a), (a,), [a])]
    found += [(a, own) for own in (None, str(b), float(b), (b,), [b])]
    found += [[own, b] for own in (None, float(a))] + [[a, own] for own in (None, float(b))]
    return found


def no_rings(ring):
    n, k = ring
    found = pairs_like(ring)
    found += [(n, 0), (n, -1), (n, -k), (2 * k, k), (-n, k), (0, k), (0, 0), (n, n), (k, n), (n, (n + 1) // 2)]
    return found + [(n, True), (3, True), (True, 1), (True, True), (n, False), [n, True]]


def no_lines(ring):
    n, _ = ring
    found = pairs_like((0, n - 1)) + pairs_like((1, 2))
    found += [(1, 0), (n - 1, 0), (2, 2), (0, 0), (-1, 3), (-2, -1), (0, n), (n - 1, n), (n, n + 1), (0, 10 ** 6)]
    return found + [(False, 3), (False, n - 1), (0, True), (True, 3), [True, 3], (False, True)]


def no_sets_of_lines(ring):
    n, _ = ring
    found = [own for own in NO_TUPLES if own not in ((), "", {}, set())]
    found += ["", {}, set(), {(0, 2): True}, {(0, 2)}, iter(()), (0, 2), [0, 2], nested(20, (0, 2)), nested(19, ())]
    for line in no_lines(ring):
        found.append((line,))
        found.append([line])
    for line in ((0, n), (1, True), None, (1, 0), (1, 2, 3), [1, 1], ()):
        found += [((0, 1), line), (line, (n - 2, n - 1)), ((0, 1), line, (n - 2, n - 1))]
    found += [((0, 2), (0, 1)), ((1, 2), (0, 2)), ((0, 2), (0, 2)), ((0, 1), (0, 2), (0, 2)), [[0, 2], [0, 2]]]
    return found + [((0, 1), (1, 2), (0, 2)), ((0, 2), [0, 2]), (((0, 1), (0, 2)),), ((0, 1), ((0, 2),))]


def no_crowds(ring):
    n, _ = ring
    found = no_sets_of_lines(ring)
    return found + [((0, 1), (0, 2)), ((0, 1), (n - 2, n - 1)), ((0, n - 1), (1, n - 2)), ((0, 2), (1, 2))]


def no_ends(ring):
    found = [own for own in NO_TUPLES] + [(own, 5) for own in NO_NUMBERS] + [(0, own) for own in NO_NUMBERS]
    found += [(1,), (0, 1, 2), [0, 1, 2], (1, 0), (1, 1), (0, 1, 1, 2), (0, 2, 1, 3), (0, 1, 2, 3, 4), (-1,), (ring[0],)]
    return found + [((0, 1),), ((0,), (1,)), nested(20, 0), {0: 1}, {0, 1}]


WRONG = {
    "ring": no_rings,
    "line": no_lines,
    "lines": no_sets_of_lines,
    "crowd": no_crowds,
    "ends": no_ends,
    "number": lambda ring: NO_NUMBERS,
    "count": lambda ring: NO_COUNTS,
}


def wrong_values(kind, ring):
    """Values that are none of this kind; none are told of a thing."""
    return WRONG[kind](ring) if kind in WRONG else ()
