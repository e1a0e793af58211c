"""Fields: lines from near points to far ones; their longest rows tell whether a drawing is a lot."""

from starsinaring.checks import ask_between, fits_line, told_drawing, told_line, told_number, told_ring
from starsinaring.crossing import grown_row, is_long
from starsinaring.wiring import lanes_in


def near_points(ring, field):
    """The set of the near points of the field."""
    ring = told_ring(ring)
    _ask_field(ring, field)
    return tuple(range(_how_many_near(ring, field)))


def far_points(ring, field):
    """The set of the far points of the field."""
    ring = told_ring(ring)
    _ask_field(ring, field)
    return tuple(range(_how_many_near(ring, field), ring[0]))


def fields_of(ring, line):
    """The set of the numbers of the fields in which line leads from a near point to a far one."""
    ring = told_ring(ring)
    a, b = told_line(ring, line)
    return tuple([field for field in _fields(ring) if a < _how_many_near(ring, field) <= b])


def longest_row(ring, drawing, field):
    """How many LINES a longest ROW has."""
    return row_table(ring, drawing, field)[-1][-1]


def a_longest(ring, drawing, field):
    """A longest ROW."""
    ring, drawing = _told(ring, drawing, field)
    return tuple(grown_row(ring[0], _usable(ring, drawing, field), _how_many_near(ring, field)))


def row_table(ring, drawing, field):
    """For each near point, and each far one, how many LINES the longest ROW with ends up to these has."""
    ring, drawing = _told(ring, drawing, field)
    return _table(ring, drawing, field)


def is_row(ring, drawing, field, thing):
    """Whether thing is a ROW."""
    ring, drawing = _told(ring, drawing, field)
    if not isinstance(thing, tuple) or not all([fits_line(ring, own) for own in thing]):
        return False
    usable = _usable(ring, drawing, field)
    return all([own in usable for own in thing]) and _grows(thing)


def is_longest(ring, drawing, field, thing):
    """Whether thing is a ROW than which none is longer."""
    return is_row(ring, drawing, field, thing) and len(thing) == longest_row(ring, drawing, field)


def near_growth(ring, drawing, field):
    """The set of the near points up to which the longest ROW is longer than up to the point ahead."""
    return _growth([row[-1] for row in row_table(ring, drawing, field)], 0)


def far_growth(ring, drawing, field):
    """The set of the far points up to which the longest ROW is longer than up to the point ahead."""
    return _growth(row_table(ring, drawing, field)[-1], told_ring(ring)[1] + field)


def wide_fields(ring, drawing):
    """The set of the numbers of the fields with ROWS of more than k LINES."""
    return tuple([at + 1 for at, many in enumerate(more_than_k(ring, drawing)) if many > 0])


def more_than_k(ring, drawing):
    """Field by field, how many more than k LINES the longest ROWS have."""
    ring = told_ring(ring)
    drawing = told_drawing(ring, drawing)
    return tuple([_table(ring, drawing, field)[-1][-1] - ring[1] for field in _fields(ring)])


def _fields(ring):
    return list(range(1, lanes_in(ring)))


def _how_many_near(ring, field):
    return ring[1] + field


def _ask_field(ring, field):
    ask_between(told_number(field), 1, lanes_in(ring) - 1)


def _told(ring, drawing, field):
    ring = told_ring(ring)
    drawing = told_drawing(ring, drawing)
    _ask_field(ring, field)
    return (ring, drawing)


def _usable(ring, drawing, field):
    """The LINES that may stand in a ROW."""
    near = _how_many_near(ring, field)
    lines = [(a, b) for a in range(near) for b in range(near, ring[0])]
    drawn = set(drawing)
    return {line: True for line in lines if line in drawn or not is_long(ring, line)}


def _table(ring, drawing, field):
    near = _how_many_near(ring, field)
    usable = _usable(ring, drawing, field)
    above = [0] * (ring[0] - near + 1)
    rows = []
    for a in range(near):
        row = [0]
        for at in range(ring[0] - near):
            if (a, near + at) in usable:
                row.append(above[at] + 1)
            else:
                row.append(max(row[at], above[at + 1]))
        rows.append(tuple(row[1:]))
        above = row
    return tuple(rows)


def _grows(row):
    """Whether both ends of each LINE of row are greater than those of the one ahead of it."""
    pairs = [(row[at], row[at + 1]) for at in range(len(row) - 1)]
    return all([line[0] < other[0] and line[1] < other[1] for line, other in pairs])


def _growth(many, first):
    """The points, first and those behind it, at which many is more than at the point ahead."""
    ahead = [0] + list(many)
    return tuple([first + at for at in range(len(many)) if many[at] > ahead[at]])
