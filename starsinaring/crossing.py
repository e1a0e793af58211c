"""Lines, and which of them cross, for values that are known to be fit."""


def length(n, line):
    """The length of line in a ring of n points."""
    return min(line[1] - line[0], n - line[1] + line[0])


def is_long(ring, line):
    """Whether line is long in ring."""
    return length(ring[0], line) > ring[1]


def all_long(ring):
    """The set of all long LINES of ring."""
    n = ring[0]
    return tuple([(a, b) for a in range(n) for b in range(a + 1, n) if is_long(ring, (a, b))])


def all_rim(ring):
    """The set of all rim LINES of ring."""
    n, k = ring
    return tuple(sorted([joined(point, (point + k) % n) for point in range(n)]))


def steps_to(n, point, far):
    """How many steps lead up from point to far in a ring of n points."""
    return (far - point) % n


def between(n, point, far):
    """The points strictly between point and far, going up from point."""
    return tuple([(point + step) % n for step in range(1, steps_to(n, point, far))])


def looks(n, corner, far):
    """Whether corner looks at far."""
    _, q, r = corner
    return 0 < steps_to(n, q, far) < steps_to(n, q, r)


def joined(point, far):
    """The LINE of two points."""
    return (min(point, far), max(point, far))


def cross(line, other):
    """Whether line and other cross."""
    a, b = line
    c, d = other
    return a < c < b < d or c < a < d < b


def all_cross(lines):
    """Whether each two of lines, a set of LINES, cross."""
    # with all lesser ends ahead of all greater ones, neighbours that grow in both ends are enough
    for at in range(len(lines) - 1):
        if lines[at][0] == lines[at + 1][0] or lines[at][1] >= lines[at + 1][1]:
            return False
    return not lines or lines[-1][0] < lines[0][1]


def room_table(n, marked, split):
    """table[a][b]: how many of marked, a from a to below split, b from b on, can grow in both ends."""
    table = [[0] * (n + 1) for _ in range(split + 1)]
    for a in reversed(range(split)):
        for b in reversed(range(split, n)):
            if (a, b) in marked:
                table[a][b] = table[a + 1][b + 1] + 1
            else:
                table[a][b] = max(table[a + 1][b], table[a][b + 1])
    return table


def grown_row(n, marked, split):
    """As many of marked as can grow in both ends, a below split, b from it on."""
    table = room_table(n, marked, split)
    row = []
    a, b = 0, split
    while table[a][b] > 0:
        if (a, b) in marked:
            row.append((a, b))
            a, b = a + 1, b + 1
        elif table[a + 1][b] == table[a][b]:
            a += 1
        else:
            b += 1
    return row


def largest_crowd(n, lines):
    """A CROWD with as many LINES of lines as can be."""
    marked = {line: True for line in lines}
    most = []
    # LINES of a CROWD grow in both ends, and some point parts all lesser ends from all greater ones
    for split in range(1, n):
        row = grown_row(n, marked, split)
        if len(row) > len(most):
            most = row
    return tuple(most)


def _seen_from(n, line, lines):
    """Those of lines that cross line, by the steps up from its lesser end to their ends."""
    a, b = line
    seen = {}
    for c, d in lines:
        if a < c < b < d:
            seen[(c - a, d - a)] = True
        elif c < a < d < b:
            seen[(d - a, c - a + n)] = True
    return seen


def most_across(n, line, lines):
    """How many LINES of lines, at most, cross line and one another."""
    split = line[1] - line[0]
    return room_table(n, _seen_from(n, line, lines), split)[0][split]


def crowd_across(n, line, lines):
    """A CROWD with as many LINES of lines as can be that all cross line."""
    a, b = line
    row = grown_row(n, _seen_from(n, line, lines), b - a)
    return tuple(sorted([joined((a + x) % n, (a + y) % n) for x, y in row]))
