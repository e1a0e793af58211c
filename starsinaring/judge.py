"""One judge: claims, papers against them, reasons for them."""

from starsinaring.checks import told_row
from starsinaring.claiming import fits_claim, fits_paper, fits_reason, paper_of, reason_of, told_claim


def is_claim(thing):
    """Whether thing is a CLAIM."""
    return fits_claim(thing)


def is_so(claim):
    """Whether claim stands."""
    return paper_of(told_claim(claim)) is None


def paper_against(claim):
    """A PAPER against claim; None if it stands."""
    return paper_of(told_claim(claim))


def is_paper_against(claim, thing):
    """Whether thing is a PAPER against claim."""
    return fits_paper(told_claim(claim), thing)


def reason_for(claim):
    """A REASON for claim; None if it does not stand."""
    claim = told_claim(claim)
    return reason_of(claim) if paper_of(claim) is None else None


def is_reason_for(claim, thing):
    """Whether thing is a REASON for claim."""
    claim = told_claim(claim)
    return paper_of(claim) is None and fits_reason(claim, thing)


def first_fallen(claims):
    """The number of the first of claims that does not stand; None if all stand."""
    for number, claim in enumerate([told_claim(own) for own in told_row(claims)]):
        if paper_of(claim) is not None:
            return number
    return None
