"""The desk: a full lot worked by lines of text."""

from starsinaring.checks import told_ring
from starsinaring.errors import NothingDone
from starsinaring.putting import fan_of
from starsinaring.saying import answered, orders_in


class Desk:
    """A RING and a FULL LOT of it, at the beginning the least one, with all that was done."""

    def __init__(self, ring):
        self._ring = told_ring(ring)
        self._lot = fan_of(self._ring, 0)
        # the FULL LOTS ahead of what can be taken back, and behind what can be done once more; the nearest one is last
        self._ahead = []
        self._behind = []

    def say(self, text):
        """The answers to the lines of text, which are done one by one."""
        lot = self._lot
        answers = []
        for order in orders_in(text):
            answer, lot = answered(self._ring, lot, order)
            answers.append(answer)
        if "done" in answers:
            self._ahead.append(self._lot)
            self._behind = []
            self._lot = lot
        return tuple(answers)

    def ring(self):
        """The RING."""
        return self._ring

    def lot(self):
        """The FULL LOT now."""
        return self._lot

    def undo(self):
        """Takes back the last say that did something; how many can be taken back then."""
        if not self._ahead:
            raise NothingDone()
        self._behind.append(self._lot)
        self._lot = self._ahead.pop()
        return len(self._ahead)

    def redo(self):
        """Does once more what was taken back last; how many can be taken back then."""
        if not self._behind:
            raise NothingDone()
        self._ahead.append(self._lot)
        self._lot = self._behind.pop()
        return len(self._ahead)

    def twin(self):
        """Another Desk like this one."""
        other = Desk(self._ring)
        other._lot = self._lot
        other._ahead = list(self._ahead)
        other._behind = list(self._behind)
        return other

    def __eq__(self, other):
        return isinstance(other, Desk) and self._ring == other._ring and self._lot == other._lot
