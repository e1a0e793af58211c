"""What the document says, searched for plainly, without any code of the package."""

from functools import lru_cache
from itertools import combinations, product
from random import Random


def rings_to(most):
    """All RINGS of at most so many points."""
    return [(n, k) for n in range(3, most + 1) for k in range(1, n) if n >= 2 * k + 1]


def walk_between(n, point, far):
    """The points that one comes to going up from point, ahead of far."""
    passed = []
    while point != far:
        point = 0 if point == n - 1 else point + 1
        passed.append(point)
    return tuple(passed[:-1])


def all_lines(n):
    return tuple((a, b) for a in range(n) for b in range(n) if a < b)


def length(n, line):
    a, b = line
    return min(len(walk_between(n, a, b)), len(walk_between(n, b, a))) + 1


def long_lines(ring):
    n, k = ring
    return tuple(line for line in all_lines(n) if length(n, line) > k)


def rim_lines(ring):
    n, k = ring
    return tuple(line for line in all_lines(n) if length(n, line) == k)


def crosses(n, line, other):
    if set(line) & set(other):
        return False
    return len([end for end in other if end in walk_between(n, *line)]) == 1


def cross_table(n):
    """All pairs of LINES that cross, either one first."""
    lines = all_lines(n)
    return {(line, other) for line in lines for other in lines if crosses(n, line, other)}


def is_crossing_set(table, lines):
    return all((line, other) in table for line, other in combinations(lines, 2))


def crowds(table, lines, number):
    """All CROWDS of number LINES of lines, ascending; lines ascending."""
    return [own for own in combinations(lines, number) if is_crossing_set(table, own)]


def greatest(table, lines):
    """How many LINES of lines, at most, cross two by two, by plain search."""
    if not lines:
        return 0
    first, rest = lines[0], lines[1:]
    with_first = 1 + greatest(table, [own for own in rest if (first, own) in table])
    # leaving first out can help only if some line left does not cross it
    return with_first if with_first > len(rest) else max(with_first, greatest(table, rest))


def subsets(items):
    return [own for size in range(len(items) + 1) for own in combinations(items, size)]


def some_subsets(items, many, seed):
    """many ascending subsets of items, of all sizes, always the same ones."""
    source = Random(seed)
    found = []
    for _ in range(many):
        size = source.randint(0, len(items))
        found.append(tuple(sorted(source.sample(items, size))))
    return found


def deep_list(value):
    """value with lists in the place of tuples, at all depths."""
    if isinstance(value, (list, tuple)):
        return [deep_list(own) for own in value]
    return value


def lists_at(value, depth):
    """value with lists in the place of the tuples at this depth alone."""
    if not isinstance(value, (list, tuple)):
        return value
    if depth == 0:
        return list(value)
    return type(value)(lists_at(own, depth - 1) for own in value)


def depth_of(value):
    """How deep tuples and lists are nested in value."""
    if not isinstance(value, (list, tuple)):
        return 0
    return 1 + max([depth_of(own) for own in value], default=0)


def lots_of(ring, drawings):
    """Those of drawings that have no CROWD of k + 1 LINES."""
    n, k = ring
    full = [set(own) for own in crowds(cross_table(n), long_lines(ring), k + 1)]
    return [own for own in drawings if not any(crowd <= set(own) for crowd in full)]


def runs_of(ring):
    """All runs, from 0 to n - k - 2."""
    n, k = ring
    return [tuple(line for line in long_lines(ring) if line[0] == run) for run in range(n - k - 1)]


def greedy_wires(ring, drawing):
    """The wires on the lanes, lane 1 first: at the beginning, and behind each run; crossings are kept in mind."""
    n, k = ring
    order = {lane: lane for lane in range(1, n - 2 * k + 1)}
    crossed = set()
    told = [tuple(order[lane] for lane in sorted(order))]
    for run in runs_of(ring):
        for a, b in run:
            lane = b - a - k
            both = frozenset([order[lane], order[lane + 1]])
            if (a, b) not in drawing and both not in crossed:
                crossed.add(both)
                order[lane], order[lane + 1] = order[lane + 1], order[lane]
        told.append(tuple(order[lane] for lane in sorted(order)))
    return told


def low_lanes(ring, drawing, low):
    return [tuple(lane + 1 for lane, wire in enumerate(order) if wire <= low) for order in greedy_wires(ring, drawing)]


def is_usable(ring, drawing, field, line):
    """Whether line leads from a near point to a far one and is of drawing or not long."""
    n, k = ring
    return line[0] < k + field <= line[1] and (line in drawing or length(n, line) <= k)


def longest_within(ring, drawing, field, most_near, most_far):
    """How many LINES a longest ROW has whose near ends and far ends are not above these."""
    best = {}
    for a, b in all_lines(ring[0]):
        if a <= most_near and b <= most_far and is_usable(ring, drawing, field, (a, b)):
            best[(a, b)] = 1 + max([best[own] for own in best if own[0] < a and own[1] < b], default=0)
    return max(best.values(), default=0)


def longest_row(ring, drawing, field):
    """How many LINES the longest ROW of the field has."""
    return longest_within(ring, drawing, field, ring[0], ring[0])


def put_in_turn(lots, lot, lines):
    """lot with one of lines after the other put to it, whenever this is one of lots."""
    for line in lines:
        more = tuple(sorted({*lot, line}))
        lot = more if more in lots else lot
    return lot


@lru_cache(maxsize=None)
def all_lots(ring):
    """All LOTS of ring, ascending: grown LINE by LINE, as long as no k + 1 cross."""
    n, k = ring
    table = cross_table(n)
    long = long_lines(ring)
    found = []

    def grow(lot, at):
        found.append(lot)
        for place in range(at, len(long)):
            crossing = tuple(own for own in lot if (own, long[place]) in table)
            if greatest(table, crossing) < k:
                grow((*lot, long[place]), place + 1)

    grow((), 0)
    return tuple(sorted(found))


@lru_cache(maxsize=None)
def full_lots(ring):
    """All FULL LOTS of ring, ascending."""
    lots = set(all_lots(ring))
    long = long_lines(ring)
    return tuple(lot for lot in all_lots(ring)
                 if not any(tuple(sorted({*lot, line})) in lots for line in long if line not in lot))


def line_of(point, far):
    return (point, far) if point < far else (far, point)


def sides(ring, lot):
    """The LINES of lot, and rim."""
    return {*lot, *rim_lines(ring)}


def comes_to(n, point, first, then):
    """Whether, going up from point, one comes to first, then to then."""
    return first in walk_between(n, point, then)


def all_corners(ring, lot):
    """All CORNERS of lot, ascending, by what a CORNER is."""
    n, _ = ring
    side = sides(ring, lot)
    far = {p: [q for q in range(n) if q != p and line_of(p, q) in side] for p in range(n)}
    return tuple((p, q, r) for p in range(n) for q in far[p] for r in far[p] if q != r and comes_to(n, p, q, r)
                 and not any(x in far[p] for x in walk_between(n, q, r)))


def next_corner(corners, corner):
    """The CORNER at r whose second member is p."""
    p, _, r = corner
    found = [own for own in corners if own[0] == r and own[1] == p]
    assert len(found) == 1
    return found[0]


def walk_of(corners, corner):
    walk = [corner]
    while next_corner(corners, walk[-1]) != corner:
        walk.append(next_corner(corners, walk[-1]))
    return tuple(walk)


@lru_cache(maxsize=None)
def all_stars(ring):
    n, k = ring
    return tuple(combinations(range(n), 2 * k + 1))


def star_lines(star):
    """From each of its points to the k-th next one of them."""
    k = len(star) // 2
    twice = star + star
    return tuple(sorted({line_of(point, twice[at + k]) for at, point in enumerate(star)}))


def star_corners(star):
    """The corners of star, by its points."""
    k = len(star) // 2
    twice = star + star
    return {point: (point, twice[at + k], twice[at + k + 1]) for at, point in enumerate(star)}


def stars_in(ring, lot):
    """The STARS in lot, by all choices of 2k + 1 points."""
    side = sides(ring, lot)
    return tuple(star for star in all_stars(ring) if set(star_lines(star)) <= side)


def meets(n, line, star, other):
    """Whether line meets star and other."""
    mine, theirs = star_corners(star), star_corners(other)
    for p, q in (line, line[::-1]):
        if p in mine and q in theirs:
            if q in walk_between(n, *mine[p][1:]) and p in walk_between(n, *theirs[q][1:]):
                return True
    return False


def plain_wires(ring, drawing):
    """What plain wires do: (LINE, lower wire, upper wire) for each tie, and the wires behind each run."""
    n, k = ring
    on = {lane: lane for lane in range(1, n - 2 * k + 1)}
    ties, orders = [], []
    for run in runs_of(ring):
        for a, b in run:
            lane = b - a - k
            ties.append(((a, b), on[lane], on[lane + 1]))
            if (a, b) not in drawing:
                on[lane], on[lane + 1] = on[lane + 1], on[lane]
        orders.append(tuple(on[lane] for lane in sorted(on)))
    return ties, orders


def crossings(ring, lot):
    """Where wires cross, by pairs of them, in either order."""
    found = {}
    for line, low, high in plain_wires(ring, lot)[0]:
        if line not in lot:
            found[(low, high)] = found[(high, low)] = line
    return found


def told_crossings(ring, lot):
    """The table of the LINES at which wires cross."""
    n, k = ring
    found = crossings(ring, lot)
    wires = range(1, n - 2 * k + 1)
    return tuple(tuple(found.get((own, far)) for far in wires) for own in wires)


@lru_cache(maxsize=None)
def exchanges(ring):
    """For each FULL LOT the ascending list of its EXCHANGES: one LINE in the place of one leads to a FULL LOT."""
    full = set(full_lots(ring))
    long = long_lines(ring)
    return {lot: [(gone, come) for gone in lot for come in long
                  if come not in lot and swapped(lot, gone, come) in full] for lot in full}


def swapped(lot, gone, come):
    return tuple(sorted({*lot, come} - {gone}))


@lru_cache(maxsize=None)
def fathers(ring):
    """For each FULL LOT the EXCHANGE that leads to its father; None for one that has no LINE that falls."""
    falling = {lot: [(gone, come) for gone, come in pairs if come < gone] for lot, pairs in exchanges(ring).items()}
    return {lot: min(pairs, default=None) for lot, pairs in falling.items()}


def way_down(ring, lot):
    steps = []
    while fathers(ring)[lot] is not None:
        steps.append(fathers(ring)[lot])
        lot = swapped(lot, *steps[-1])
    return steps, lot


def weights(ring, lot):
    """How much each wire weighs."""
    n, k = ring
    _, orders = plain_wires(ring, lot)
    return tuple(sum(order.index(wire) + 1 for order in orders) for wire in range(1, n - 2 * k + 1))


def full_with(ring, inside, outside=()):
    """The FULL LOTS that have all LINES of inside and none of outside, ascending."""
    return [lot for lot in full_lots(ring) if set(inside) <= set(lot) and not set(outside) & set(lot)]


@lru_cache(maxsize=None)
def bracket_rows(pairs):
    """All bracket rows of so many pairs, ascending."""
    rows = ["".join(signs) for signs in product("()", repeat=2 * pairs)]
    return [row for row in rows if row.count("(") == pairs and all(opened(row, at) >= at - opened(row, at) for at in range(2 * pairs))]


def opened(row, many):
    """How many "(" the first so many signs of row have."""
    return row[:many].count("(")


def sheaves(ring):
    """All sheaves, ascending: of all choices of k bracket rows of N pairs."""
    n, k = ring
    under = {(row, other) for row in bracket_rows(n - 2 * k) for other in bracket_rows(n - 2 * k)
             if all(opened(row, at) <= opened(other, at) for at in range(len(row)))}
    return [own for own in product(bracket_rows(n - 2 * k), repeat=k) if all(pair in under for pair in zip(own, own[1:]))]


def determinant(table):
    """By the first row, number by number."""
    if not table:
        return 1
    rest = [[row[:at] + row[at + 1:] for row in table[1:]] for at in range(len(table))]
    return sum((-1) ** at * table[0][at] * determinant(rest[at]) for at in range(len(table)) if table[0][at])


@lru_cache(maxsize=None)
def steps_from(ring, full):
    """How many EXCHANGES, at the fewest, lead from full to each FULL LOT."""
    told = {full: 0}
    row = [full]
    for own in row:
        for gone, come in exchanges(ring)[own]:
            other = swapped(own, gone, come)
            if other not in told:
                told[other] = told[own] + 1
                row.append(other)
    return told


def turned(n, lines, number):
    """lines, one step up after the other; back if number is below 0."""
    for _ in range(number % n):
        lines = tuple(sorted(line_of((a + 1) % n, (b + 1) % n) for a, b in lines))
    return lines


def mirrored(n, lines):
    points = list(reversed(range(n)))
    return tuple(sorted(line_of(points[a], points[b]) for a, b in lines))
