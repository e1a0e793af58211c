"""What the document says, searched for plainly, without any code of the package."""

from itertools import combinations
from random import Random


def rings_to(most):
    """All RINGS of at most so many points."""
    return [(n, k) for n in range(3, most + 1) for k in range(1, n) if n >= 2 * k + 1]


def walk_between(n, point, far):
    """The points that one comes to going up from point, ahead of far."""
    passed = []
    while point != far:
        point = 0 if point == n - 1 else point + 1
        passed.append(point)
    return tuple(passed[:-1])


def all_lines(n):
    return tuple((a, b) for a in range(n) for b in range(n) if a < b)


def length(n, line):
    a, b = line
    return min(len(walk_between(n, a, b)), len(walk_between(n, b, a))) + 1


def long_lines(ring):
    n, k = ring
    return tuple(line for line in all_lines(n) if length(n, line) > k)


def rim_lines(ring):
    n, k = ring
    return tuple(line for line in all_lines(n) if length(n, line) == k)


def crosses(n, line, other):
    if set(line) & set(other):
        return False
    return len([end for end in other if end in walk_between(n, *line)]) == 1


def cross_table(n):
    """All pairs of LINES that cross, either one first."""
    lines = all_lines(n)
    return {(line, other) for line in lines for other in lines if crosses(n, line, other)}


def is_crossing_set(table, lines):
    return all((line, other) in table for line, other in combinations(lines, 2))


def crowds(table, lines, number):
    """All CROWDS of number LINES of lines, ascending; lines ascending."""
    return [own for own in combinations(lines, number) if is_crossing_set(table, own)]


def greatest(table, lines):
    """How many LINES of lines, at most, cross two by two, by plain search."""
    if not lines:
        return 0
    first, rest = lines[0], lines[1:]
    with_first = 1 + greatest(table, [own for own in rest if (first, own) in table])
    # leaving first out can help only if some line left does not cross it
    return with_first if with_first > len(rest) else max(with_first, greatest(table, rest))


def subsets(items):
    return [own for size in range(len(items) + 1) for own in combinations(items, size)]


def some_subsets(items, many, seed):
    """many ascending subsets of items, of all sizes, always the same ones."""
    source = Random(seed)
    found = []
    for _ in range(many):
        size = source.randint(0, len(items))
        found.append(tuple(sorted(source.sample(items, size))))
    return found


def deep_list(value):
    """value with lists in the place of tuples, at all depths."""
    if isinstance(value, (list, tuple)):
        return [deep_list(own) for own in value]
    return value


def lists_at(value, depth):
    """value with lists in the place of the tuples at this depth alone."""
    if not isinstance(value, (list, tuple)):
        return value
    if depth == 0:
        return list(value)
    return type(value)(lists_at(own, depth - 1) for own in value)


def depth_of(value):
    """How deep tuples and lists are nested in value."""
    if not isinstance(value, (list, tuple)):
        return 0
    return 1 + max([depth_of(own) for own in value], default=0)


def lots_of(ring, drawings):
    """Those of drawings that have no CROWD of k + 1 LINES."""
    n, k = ring
    full = [set(own) for own in crowds(cross_table(n), long_lines(ring), k + 1)]
    return [own for own in drawings if not any(crowd <= set(own) for crowd in full)]


def runs_of(ring):
    """All runs, from 0 to n - k - 2."""
    n, k = ring
    return [tuple(line for line in long_lines(ring) if line[0] == run) for run in range(n - k - 1)]


def greedy_wires(ring, drawing):
    """The wires on the lanes, lane 1 first: at the beginning, and behind each run; crossings are kept in mind."""
    n, k = ring
    order = {lane: lane for lane in range(1, n - 2 * k + 1)}
    crossed = set()
    told = [tuple(order[lane] for lane in sorted(order))]
    for run in runs_of(ring):
        for a, b in run:
            lane = b - a - k
            both = frozenset([order[lane], order[lane + 1]])
            if (a, b) not in drawing and both not in crossed:
                crossed.add(both)
                order[lane], order[lane + 1] = order[lane + 1], order[lane]
        told.append(tuple(order[lane] for lane in sorted(order)))
    return told


def low_lanes(ring, drawing, low):
    return [tuple(lane + 1 for lane, wire in enumerate(order) if wire <= low) for order in greedy_wires(ring, drawing)]


def longest_row(ring, drawing, field):
    """How many LINES the longest ROW of the field has: from near points to far ones, of drawing or not long."""
    n, k = ring
    near = k + field
    long = long_lines(ring)
    usable = [line for line in all_lines(n) if line[0] < near <= line[1] and (line in drawing or line not in long)]
    best = {}
    for a, b in usable:
        best[(a, b)] = 1 + max([best[own] for own in best if own[0] < a and own[1] < b], default=0)
    return max(best.values(), default=0)


def put_in_turn(lots, lot, lines):
    """lot with one of lines after the other put to it, whenever this is one of lots."""
    for line in lines:
        more = tuple(sorted({*lot, line}))
        lot = more if more in lots else lot
    return lot
