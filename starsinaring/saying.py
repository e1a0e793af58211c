"""Lines said to a desk: how they are read, and what is answered to them."""

from starsinaring.checks import fits_line
from starsinaring.crossing import length
from starsinaring.errors import BadText
from starsinaring.putting import fan_of
from starsinaring.signs import number_of, word_of
from starsinaring.starring import all_that_meet, every_star
from starsinaring.swapping import newcomers, step_down, swapped
from starsinaring.turning import mirrored_lines, turned_lines

_MOST_FIGURES = 6


def answer_swap(ring, lot, a, b):
    """Exchanges the LINE of a and b."""
    come = newcomers(ring, lot).get((a, b))
    return ("no line", lot) if come is None else ("done", swapped(lot, (a, b), come))


def answer_turn(ring, lot, number):
    """Turns the LOT."""
    return ("done", turned_lines(ring[0], lot, number))


def answer_mirror(ring, lot):
    """Mirrors the LOT."""
    return ("done", mirrored_lines(ring[0], lot))


def answer_father(ring, lot):
    """Goes from the LOT to its father."""
    step = step_down(ring, lot)
    return ("none", lot) if step is None else ("done", swapped(lot, *step))


def answer_first(ring, lot):
    """Goes to the least FULL LOT."""
    return ("done", fan_of(ring, 0))


def answer_comes(ring, lot, a, b):
    """Tells the LINE that would come for that of a and b."""
    come = newcomers(ring, lot).get((a, b))
    return ("no line" if come is None else _told(come), lot)


def answer_star(ring, lot, place):
    """Tells the points of the STAR at this place."""
    stars = every_star(ring, lot)
    return (_told(stars[place]) if place < len(stars) else "no star", lot)


def answer_meet(ring, lot, place, other):
    """Tells the LINE that meets the STARS at two places."""
    stars = every_star(ring, lot)
    if place == other or max(place, other) >= len(stars):
        return ("no star", lot)
    return (_told(all_that_meet(ring[0], stars[place], stars[other])[0]), lot)


def answer_kind(ring, lot, a, b):
    """Tells whether the LINE of a and b is of the LOT, out of it, of the rim or shorter."""
    if not fits_line(ring, (a, b)):
        return ("no line", lot)
    steps = length(ring[0], (a, b))
    if steps <= ring[1]:
        return ("short" if steps < ring[1] else "rim", lot)
    return ("in" if (a, b) in lot else "out", lot)


def answer_falling(ring, lot):
    """Tells how many LINES of the LOT fall."""
    news = newcomers(ring, lot)
    return (word_of(len([line for line in lot if news[line] < line])), lot)


def _told(numbers):
    return " ".join([word_of(number) for number in numbers])


_ANSWERS = {
    "swap": answer_swap, "turn": answer_turn, "mirror": answer_mirror, "father": answer_father,
    "first": answer_first, "comes": answer_comes, "star": answer_star, "meet": answer_meet,
    "kind": answer_kind, "falling": answer_falling,
}
_HOW_MANY = {
    "swap": 2, "turn": 1, "mirror": 0, "father": 0, "first": 0,
    "comes": 2, "star": 1, "meet": 2, "kind": 2, "falling": 0,
}


def orders_in(text):
    """The lines of text: pairs of the word and the numbers behind it; BadText for the first that is none."""
    found = []
    for number, row in enumerate(text.split("\n")):
        word, *told = row.split(" ")
        numbers = [_number(own, word == "turn") for own in told]
        if word not in _HOW_MANY or len(numbers) != _HOW_MANY[word] or None in numbers:
            raise BadText(number)
        found.append((word, tuple(numbers)))
    return found


def answered(ring, lot, order):
    """The answer to one of orders_in, and the FULL LOT that there is then."""
    word, numbers = order
    answer = _ANSWERS[word]
    return answer(ring, lot, *numbers)


def _number(word, signed):
    """The number that word tells; None if it is none, or below 0 and not signed."""
    number = number_of(word)
    if number is None or (number < 0 and not signed) or len(word_of(abs(number))) > _MOST_FIGURES:
        return None
    return number
