"""Texts of rings, lots and rows of exchanges, and pictures of lots."""

from starsinaring.checks import fits_exchange, fits_ring, in_tuples, told_ring
from starsinaring.crossing import joined, length
from starsinaring.errors import BadText, CanNot, Unfit
from starsinaring.putting import fits_lot, told_lot
from starsinaring.signs import number_of, word_of, words

_SIGNS = "o-=x."


def is_sheet(thing):
    """Whether thing is a SHEET."""
    if not isinstance(thing, tuple) or len(thing) != 3:
        return False
    ring, lots, rows = thing
    if not fits_ring(ring) or not isinstance(lots, tuple) or not isinstance(rows, tuple):
        return False
    return all([fits_lot(ring, lot) for lot in lots]) and all([_fits_row(ring, row) for row in rows])


def sheet_text(sheet):
    """The text of a SHEET."""
    sheet = in_tuples(sheet, 5)
    if not is_sheet(sheet):
        raise Unfit()
    ring, lots, rows = sheet
    told = [_row_text("ring", ring)]
    for lot in lots:
        told.append("lot")
        told.extend([_row_text("line", line) for line in lot])
    for row in rows:
        told.append("row")
        told.extend([_row_text("swap", gone + come) for gone, come in row])
    return "".join([own + "\n" for own in told])


def read_sheet(text):
    """The SHEET of a text."""
    told = _rows_told(text)
    if not told:
        raise BadText(0)
    first, word, numbers = told[0]
    ring = tuple(numbers)
    if word != "ring" or not fits_ring(ring):
        raise BadText(first)
    lots, rows = [], []
    for line, word, numbers in told[1:]:
        if not _can_stand(ring, word, numbers, lots, rows):
            raise BadText(line)
        if word == "lot":
            lots.append(())
        elif word == "line":
            lots[-1] = lots[-1] + (numbers,)
        elif word == "row":
            rows.append(())
        else:
            rows[-1] = rows[-1] + ((numbers[:2], numbers[2:]),)
    return (ring, tuple(lots), tuple(rows))


def lot_text(ring, lot):
    """The numbers of the LINES of lot, one blank between two."""
    lot = told_lot(told_ring(ring), lot)
    return " ".join([word_of(point) for line in lot for point in line])


def read_lot(ring, text):
    """The LOT of a text of the numbers of its LINES."""
    ring = told_ring(ring)
    numbers = [number_of(word) for word, _ in words(text)]
    lot = tuple([tuple(numbers[at:at + 2]) for at in range(0, len(numbers), 2)])
    if not fits_lot(ring, lot):
        raise BadText(0)
    return lot


def picture(ring, lot):
    """The picture of lot: a line for each point, in it a sign for each point."""
    ring = told_ring(ring)
    return _drawn(ring, told_lot(ring, lot))


def read_picture(text):
    """The RING and the LOT of a picture."""
    rows = _picture_rows(text)
    n = len(rows)
    if len(rows[0]) != n:
        raise CanNot()
    # of the signs of point 0 the first one of a rim LINE is k steps up
    ring = (n, rows[0].find("="))
    lot = tuple([(a, b) for a in range(n) for b in range(a + 1, n) if rows[a][b] == "x"])
    if not fits_ring(ring) or not fits_lot(ring, lot) or _drawn(ring, lot) != text:
        raise CanNot()
    return (ring, lot)


def _fits_row(ring, thing):
    """Whether thing is a tuple of EXCHANGES of ring."""
    return isinstance(thing, tuple) and all([fits_exchange(ring, own) for own in thing])


def _row_text(word, numbers):
    return " ".join([word] + [word_of(number) for number in numbers])


def _rows_told(text):
    """The rows of a text: triples of the number of its line, its first word, and the numbers of the others."""
    rows = {}
    for word, line in words(text):
        if line not in rows:
            rows[line] = []
        rows[line].append(word)
    return [(line, row[0], tuple([number_of(word) for word in row[1:]])) for line, row in rows.items()]


def _can_stand(ring, word, numbers, lots, rows):
    """Whether a row of this word and these numbers, None for what is none, is as told, and can stand there."""
    if word == "lot":
        return not numbers and not rows
    if word == "line":
        return bool(lots) and not rows and fits_lot(ring, lots[-1] + (numbers,))
    if word == "row":
        return not numbers
    return word == "swap" and bool(rows) and fits_exchange(ring, (numbers[:2], numbers[2:]))


def _sign(ring, marked, point, far):
    """The sign for far in the line of point."""
    if point == far:
        return "o"
    line = joined(point, far)
    steps = length(ring[0], line)
    if steps <= ring[1]:
        return "-" if steps < ring[1] else "="
    return "x" if line in marked else "."


def _drawn(ring, lot):
    points = range(ring[0])
    marked = {line: True for line in lot}
    return "".join(["".join([_sign(ring, marked, point, far) for far in points]) + "\n" for point in points])


def _picture_rows(text):
    """The lines of a picture, without their ends; BadText if text is none for its signs."""
    rows = text.split("\n")
    left = rows.pop()
    if left:
        rows.append(left)
    for number, row in enumerate(rows):
        if not row or len(row) != len(rows[0]) or not all([sign in _SIGNS for sign in row]):
            raise BadText(number)
    if left or not rows:
        raise BadText(max(0, len(rows) - 1))
    return rows
