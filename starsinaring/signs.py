"""Words of a text."""

from starsinaring.errors import BadText

_FIGURES = "0123456789"
_WORD_SIGNS = "abcdefghijklmnopqrstuvwxyz0123456789-"
_MOST_FIGURES = 12


def words(text):
    """The words of text, each with the number of its line."""
    found = []
    for number, row in enumerate(text.split("\n")):
        told = row.split("#")[0]
        if not _has_words_only(told):
            raise BadText(number)
        found.extend([(word, number) for word in told.split(" ") if word])
    return found


def _has_words_only(told):
    for sign in told:
        if sign != " " and sign not in _WORD_SIGNS:
            return False
    return True


def text_of(words):
    """The text that has each of words in its line."""
    pieces = []
    at = 0
    for place, (word, line) in enumerate(words):
        if line > at:
            pieces.append("\n" * (line - at))
        elif place > 0:
            pieces.append(" ")
        pieces.append(word)
        at = line
    if pieces:
        pieces.append("\n")
    return "".join(pieces)


def number_of(word):
    """The number that word tells, None if it is no number word."""
    figures = word[1:] if word.startswith("-") else word
    if not 1 <= len(figures) <= _MOST_FIGURES:
        return None
    for sign in figures:
        # isdigit would let figures of other scripts through
        if sign not in _FIGURES:
            return None
    if figures.startswith("0") and word != "0":
        return None
    return int(word)


def word_of(number):
    """The number word that tells number."""
    return str(number)
