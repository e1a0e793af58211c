"""Claims of each kind: what stands in them, what speaks against them, and what for them.

For each kind a function of each sort takes what stands in the claim behind its word, and a thing behind
that where one is asked. Papers and reasons are None where there is none.
"""

from starsinaring.checks import (
    fits_crowd_of, fits_drawing, fits_group, fits_line, fits_long_line, fits_ring, fits_star, in_tuples,
)
from starsinaring.cornering import fits_corner, neighbour_table
from starsinaring.crossing import all_long, cross, crowd_across, largest_crowd
from starsinaring.errors import Unfit
from starsinaring.putting import can_be_put, fits_full, fits_lot, is_full_lot, makes_lot
from starsinaring.starring import every_star, lines_lacking, star_corner, stars_with
from starsinaring.swapping import least_full_with, swapped


def fits_lot_claim(ring, lines):
    """Whether a CLAIM that lines are a LOT may have these."""
    return fits_ring(ring) and fits_drawing(ring, lines)


def fits_full_claim(ring, lot):
    """Whether a CLAIM that lot is FULL may have these."""
    return fits_ring(ring) and fits_lot(ring, lot)


def fits_star_claim(ring, lot, star):
    """Whether a CLAIM that star is in lot may have these."""
    return fits_ring(ring) and fits_full(ring, lot) and fits_star(ring, star)


def fits_exchange_claim(ring, lot, line, other):
    """Whether a CLAIM that other may come for line may have these."""
    if not fits_ring(ring) or not fits_full(ring, lot) or not fits_line(ring, line) or not fits_long_line(ring, other):
        return False
    return line in lot and other not in lot


def fits_out_claim(ring, lot, line):
    """Whether a CLAIM that no FULL LOT has lot and line may have these."""
    return fits_ring(ring) and fits_lot(ring, lot) and fits_long_line(ring, line) and line not in lot


def lot_paper(ring, lines):
    """A CROWD of k + 1 LINES of lines."""
    return None if makes_lot(ring, lines) else largest_crowd(ring[0], lines)[:ring[1] + 1]


def full_paper(ring, lot):
    """A long LINE that is none of lot and can be put to it."""
    if is_full_lot(ring, lot):
        return None
    for line in all_long(ring):
        if line not in lot and can_be_put(ring, lot, line):
            return line
    return None


def star_paper(ring, lot, star):
    """A LINE of star that is neither of lot nor rim."""
    lacking = lines_lacking(ring, lot, star)
    return lacking[0] if lacking else None


def exchange_paper(ring, lot, line, other):
    """A CROWD of k + 1 LINES of lot with other in the place of line."""
    # it has as many LINES as a FULL LOT: so it is none only if it is no LOT
    return lot_paper(ring, swapped(lot, line, other))


def out_paper(ring, lot, line):
    """A FULL LOT that has lot and line."""
    return least_full_with(ring, _with(lot, line)) if can_be_put(ring, lot, line) else None


def fits_lot_paper(ring, lines, thing):
    """Whether thing is a CROWD of k + 1 LINES of lines."""
    return fits_crowd_of(ring, thing, lines, ring[1] + 1)


def fits_full_paper(ring, lot, thing):
    """Whether thing is a long LINE that is none of lot and can be put to it."""
    return fits_long_line(ring, thing) and thing not in lot and can_be_put(ring, lot, thing)


def fits_star_paper(ring, lot, star, thing):
    """Whether thing is a LINE of star that is neither of lot nor rim."""
    return fits_line(ring, thing) and thing in lines_lacking(ring, lot, star)


def fits_exchange_paper(ring, lot, line, other, thing):
    """Whether thing is a CROWD of k + 1 LINES of lot with other in the place of line."""
    return fits_lot_paper(ring, swapped(lot, line, other), thing)


def fits_out_paper(ring, lot, line, thing):
    """Whether thing is a FULL LOT that has lot and line."""
    return fits_lot_reason(ring, _with(lot, line), thing)


def lot_reason(ring, lines):
    """A FULL LOT with all of lines."""
    return least_full_with(ring, lines)


def full_reason(ring, lot):
    """The set of the STARS in lot."""
    return every_star(ring, lot)


def star_reason(ring, lot, star):
    """The corners of star."""
    return tuple([star_corner(star, point) for point in star])


def exchange_reason(ring, lot, line, other):
    """The two STARS in lot that have line."""
    return stars_with(ring, lot, line)


def out_reason(ring, lot, line):
    """A CROWD of k LINES of lot each of which line crosses."""
    return crowd_across(ring[0], line, lot)


def fits_lot_reason(ring, lines, thing):
    """Whether thing is a FULL LOT with all of lines."""
    return fits_full(ring, thing) and all([line in thing for line in lines])


def fits_full_reason(ring, lot, thing):
    """Whether thing is the set of the STARS in lot."""
    return fits_group(ring, thing) and thing == every_star(ring, lot)


def fits_star_reason(ring, lot, star, thing):
    """Whether thing tells the corners of star."""
    table = neighbour_table(ring, lot)
    if not isinstance(thing, tuple) or not all([fits_corner(table, own) for own in thing]):
        return False
    return thing == star_reason(ring, lot, star)


def fits_exchange_reason(ring, lot, line, other, thing):
    """Whether thing is the set of the two STARS in lot that have line."""
    return fits_group(ring, thing) and thing == stars_with(ring, lot, line)


def fits_out_reason(ring, lot, line, thing):
    """Whether thing is a CROWD of k LINES of lot each of which line crosses."""
    return fits_crowd_of(ring, thing, lot, ring[1]) and all([cross(own, line) for own in thing])


def _with(lot, line):
    return tuple(sorted((*lot, line)))


_SIZES = {"lot": 2, "full": 2, "star": 3, "exchange": 4, "out": 3}
_FITS = {
    "lot": fits_lot_claim, "full": fits_full_claim, "star": fits_star_claim,
    "exchange": fits_exchange_claim, "out": fits_out_claim,
}
_PAPERS = {
    "lot": lot_paper, "full": full_paper, "star": star_paper,
    "exchange": exchange_paper, "out": out_paper,
}
_FITS_PAPER = {
    "lot": fits_lot_paper, "full": fits_full_paper, "star": fits_star_paper,
    "exchange": fits_exchange_paper, "out": fits_out_paper,
}
_REASONS = {
    "lot": lot_reason, "full": full_reason, "star": star_reason,
    "exchange": exchange_reason, "out": out_reason,
}
_FITS_REASON = {
    "lot": fits_lot_reason, "full": fits_full_reason, "star": fits_star_reason,
    "exchange": fits_exchange_reason, "out": fits_out_reason,
}


def fits_claim(thing):
    """Whether thing is a CLAIM."""
    if not isinstance(thing, tuple) or not thing or not isinstance(thing[0], str) or thing[0] not in _SIZES:
        return False
    word, *told = thing
    fits = _FITS[word]
    return len(told) == _SIZES[word] and fits(*told)


def told_claim(value):
    """value, a CLAIM, in tuples throughout; Unfit if it is none."""
    claim = in_tuples(value, 3)
    if not fits_claim(claim):
        raise Unfit()
    return claim


def paper_of(claim):
    """A PAPER against claim; None if it stands."""
    word, *told = claim
    paper = _PAPERS[word]
    return paper(*told)


def fits_paper(claim, thing):
    """Whether thing is a PAPER against claim."""
    word, *told = claim
    fits = _FITS_PAPER[word]
    return fits(*told, thing)


def reason_of(claim):
    """A REASON for claim, which stands."""
    word, *told = claim
    reason = _REASONS[word]
    return reason(*told)


def fits_reason(claim, thing):
    """Whether thing is a REASON for claim, if this stands."""
    word, *told = claim
    fits = _FITS_REASON[word]
    return fits(*told, thing)
