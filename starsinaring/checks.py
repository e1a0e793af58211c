"""What callers pass in: fits_ functions take it as it stands, told_ functions take lists for tuples.

A told_ function returns the value in tuples throughout, or raises Unfit.
"""

from starsinaring.crossing import all_cross, is_long, length
from starsinaring.errors import CanNot, NoLine, NoPoint, TooMany, Unfit

_FEW = 2000


def is_number(thing):
    """Whether thing is an int and no bool."""
    return isinstance(thing, int) and not isinstance(thing, bool)


def fits_pair(thing):
    """Whether thing is a tuple of two numbers."""
    return isinstance(thing, tuple) and len(thing) == 2 and is_number(thing[0]) and is_number(thing[1])


def fits_ring(thing):
    """Whether thing is a RING."""
    return fits_pair(thing) and thing[1] >= 1 and thing[0] >= 2 * thing[1] + 1


def fits_line(ring, thing):
    """Whether thing is a LINE of ring."""
    return fits_pair(thing) and 0 <= thing[0] < thing[1] < ring[0]


def fits_long_line(ring, thing):
    """Whether thing is a long LINE of ring."""
    return fits_line(ring, thing) and is_long(ring, thing)


def fits_line_pair(ring, thing):
    """Whether thing is a pair of LINES of ring."""
    return isinstance(thing, tuple) and len(thing) == 2 and all([fits_line(ring, own) for own in thing])


def is_ascending(row):
    """Whether each of row is greater than the one ahead of it."""
    return all([row[at] < row[at + 1] for at in range(len(row) - 1)])


def fits_lines(ring, thing):
    """Whether thing is a set of LINES of ring."""
    # order is asked of LINES only: other values may have none
    return isinstance(thing, tuple) and all([fits_line(ring, own) for own in thing]) and is_ascending(thing)


def fits_crowd(ring, thing):
    """Whether thing is a CROWD of ring."""
    return fits_lines(ring, thing) and all_cross(thing)


def fits_drawing(ring, thing):
    """Whether thing is a DRAWING of ring."""
    return fits_lines(ring, thing) and all([is_long(ring, own) for own in thing])


def fits_star(ring, thing):
    """Whether thing is a STAR of ring."""
    if not isinstance(thing, tuple) or not all([is_number(own) for own in thing]):
        return False
    return len(thing) == 2 * ring[1] + 1 and is_ascending(thing) and 0 <= thing[0] and thing[-1] < ring[0]


def fits_group(ring, thing):
    """Whether thing is a set of STARS of ring."""
    return isinstance(thing, tuple) and all([fits_star(ring, own) for own in thing]) and is_ascending(thing)


def fits_exchange(ring, thing):
    """Whether thing is an EXCHANGE of ring."""
    return fits_line_pair(ring, thing) and thing[0] != thing[1] and all([is_long(ring, own) for own in thing])


def fits_crowd_of(ring, thing, lines, number):
    """Whether thing is a CROWD of number LINES, all of lines."""
    return fits_crowd(ring, thing) and len(thing) == number and len(set(thing) - set(lines)) == 0


def in_tuples(value, depth):
    """value with tuples in the place of lists, so many levels deep."""
    if depth == 0 or not isinstance(value, (list, tuple)):
        return value
    return tuple([in_tuples(own, depth - 1) for own in value])


def told_number(value):
    """value, a number."""
    if not is_number(value):
        raise Unfit()
    return value


def told_count(value):
    """value, a number from 0."""
    if told_number(value) < 0:
        raise Unfit()
    return value


def told_row(value):
    """value, a tuple of whatever it holds."""
    if not isinstance(value, (list, tuple)):
        raise Unfit()
    return tuple(value)


def told_numbers(value):
    """value, a set of numbers."""
    numbers = tuple([told_number(own) for own in told_row(value)])
    if not is_ascending(numbers):
        raise Unfit()
    return numbers


def told_ring(value):
    """value, a RING."""
    ring = told_row(value)
    if not fits_ring(ring):
        raise Unfit()
    return ring


def told_line(ring, value):
    """value, a LINE of ring."""
    line = told_row(value)
    if not fits_line(ring, line):
        raise Unfit()
    return line


def told_long_line(ring, value):
    """value, a long LINE of ring."""
    line = told_row(value)
    if not fits_long_line(ring, line):
        raise Unfit()
    return line


def told_lines(ring, value):
    """value, a set of LINES of ring."""
    lines = tuple([told_line(ring, own) for own in told_row(value)])
    if not is_ascending(lines):
        raise Unfit()
    return lines


def told_drawing(ring, value):
    """value, a DRAWING of ring."""
    drawing = told_lines(ring, value)
    if not fits_drawing(ring, drawing):
        raise Unfit()
    return drawing


def told_long_row(ring, value):
    """value, a tuple of long LINES of ring, in whatever order, none twice."""
    row = tuple([told_line(ring, own) for own in told_row(value)])
    if not fits_drawing(ring, tuple(sorted(row))):
        raise Unfit()
    return row


def told_crowd(ring, value):
    """value, a CROWD of ring."""
    crowd = told_lines(ring, value)
    if not all_cross(crowd):
        raise Unfit()
    return crowd


def told_star(ring, value):
    """value, a STAR of ring."""
    star = told_row(value)
    if not fits_star(ring, star):
        raise Unfit()
    return star


def told_group(ring, value):
    """value, a set of STARS of ring."""
    group = tuple([told_star(ring, own) for own in told_row(value)])
    if not is_ascending(group):
        raise Unfit()
    return group


def ask_points(ring, numbers):
    """Raises NoPoint for the first of numbers that is no point of ring."""
    for number in numbers:
        if not 0 <= number < ring[0]:
            raise NoPoint(number)


def ask_between(number, least, most):
    """Raises CanNot if number is not from least to most."""
    if not least <= number <= most:
        raise CanNot()


def ask_long(ring, line):
    """Raises CanNot if line is not long."""
    if not is_long(ring, line):
        raise CanNot()


def ask_of(lot, line):
    """Raises NoLine if line is none of lot."""
    if line not in lot:
        raise NoLine(line)


def ask_side(ring, lot, line):
    """Raises NoLine if line is neither of lot nor rim."""
    if line not in lot and length(ring[0], line) != ring[1]:
        raise NoLine(line)


def ask_out(ring, lot, line):
    """Raises NoLine if line is not long, or is one of lot."""
    if line in lot or not is_long(ring, line):
        raise NoLine(line)


def ask_few(number):
    """Raises TooMany if so many are not few."""
    if number > _FEW:
        raise TooMany()
