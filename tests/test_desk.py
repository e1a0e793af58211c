"""The desk: a full lot worked by lines of text."""

import unittest
from random import Random

from starsinaring import corners, exchange, lines, meeting, moved, order, stars
from starsinaring.desk import Desk
from starsinaring.errors import BadText, NothingDone, Unfit
from tests.raising import Raising
from tests.rings import GREAT, SMALL
from tests.wrong import no_rings

WORDS = {"swap": 2, "turn": 1, "mirror": 0, "father": 0, "first": 0, "comes": 2, "star": 1, "meet": 2, "kind": 2, "falling": 0}
LOW, HIGH = ((0, 3), (0, 4), (1, 4), (1, 5)), ((0, 3), (2, 5), (2, 6), (3, 6))
# lines that are none of the table
BAD_LINES = [
    "", " ", "#", "word", "lot", "undo", "swap", "swap 0", "swap 0 3 1", "swap  0 3", "swap 0  3", "swap 0 3 ", " swap 0 3", "swap0 3", "Swap 0 3", "SWAP 0 3", "swap 00 3", "swap 0 03",
    "swap -1 3", "swap 0 -3", "swap 0 +3", "swap 0 1234567", "swap 0 3.0", "swap 0,3", "swap (0, 3)", "swap a b", "swap 0 3 # no", "swap\t0 3", "turn", "turn 1 2", "turn -0", "turn 01",
    "turn -01", "turn +1", "turn --1", "turn - 1", "turn -", "turn 1-", "turn 1234567", "turn -1234567", "turn x", "turn 1 ", "turn  1", "mirror 1", "mirror ", " mirror", "mirrored", "father 1",
    "father ", "first 0", "first first", "falling 1", "fallings", "comes", "comes 0", "comes 0 3 4", "comes 0 -3", "comes 00 3", "star", "star 0 1", "star -1", "star 00", "star x", "star -0",
    "star 1234567", "meet", "meet 0", "meet 0 1 2", "meet -1 0", "meet 0 01", "kind", "kind 3", "kind 0 3 4", "kind 0 -3", "kind -0 3", "kind 0 1234567", "0 3", "3", "falling\r", "done", "no line",
    "swap 0 3;mirror", "turn 1e3", "turn 1_0", "meet 0 1 #", "kind 0 3 in",
]
GOOD_LINES = ["swap 0 3", "swap 999999 0", "swap 0 0", "turn 0", "turn -1", "turn 999999", "turn -999999", "turn 10", "mirror", "father", "first", "comes 0 3", "comes 3 0", "comes 7 7", "star 0",
              "star 999999", "meet 0 1", "meet 1 0", "meet 0 0", "meet 999999 0", "kind 0 3", "kind 3 0", "kind 0 0", "kind 999999 999999", "falling"]


def told(numbers):
    return " ".join(str(number) for number in numbers)


class ByFunctions:
    """What a Desk does, worked by the functions of other files."""

    def __init__(self, ring):
        self.ring = ring
        self.lot = order.least_full(ring)

    def answer(self, row):
        word, *values = row.split(" ")
        values = [int(own) for own in values]
        return getattr(self, word)(*values)

    def swap(self, a, b):
        if (a, b) not in self.lot:
            return "no line"
        self.lot = exchange.exchanged(self.ring, self.lot, (a, b))
        return "done"

    def turn(self, number):
        self.lot = moved.turned(self.ring, self.lot, number)
        return "done"

    def mirror(self):
        self.lot = moved.mirrored(self.ring, self.lot)
        return "done"

    def father(self):
        own = order.father(self.ring, self.lot)
        self.lot = self.lot if own is None else own
        return "none" if own is None else "done"

    def first(self):
        self.lot = order.least_full(self.ring)
        return "done"

    def comes(self, a, b):
        return told(exchange.newcomer(self.ring, self.lot, (a, b))) if (a, b) in self.lot else "no line"

    def star(self, place):
        found = stars.stars_in(self.ring, self.lot)
        return told(found[place]) if place < len(found) else "no star"

    def meet(self, place, other):
        found = stars.stars_in(self.ring, self.lot)
        if place == other or not max(place, other) < len(found):
            return "no star"
        return told(meeting.met_line(self.ring, self.lot, found[place], found[other]))

    def kind(self, a, b):
        if not lines.is_line(self.ring, (a, b)):
            return "no line"
        word = lines.kind_of(self.ring, (a, b))
        return word if word != "long" else "in" if b in corners.neighbours(self.ring, self.lot, a) else "out"

    def falling(self):
        return str(len(order.falling(self.ring, self.lot)))


def some_row(ring, lot, source):
    """A line of the table, most of them with a point, a place, a LINE that there is."""
    n, k = ring
    word = source.choice(list(WORDS))
    if word in ("swap", "comes") and lot and source.random() < 0.7:
        return f"{word} {told(source.choice(lot))}"
    most = {"turn": 3 * n, "star": n - 2 * k + 1, "meet": n - 2 * k + 1}.get(word, n)
    return " ".join([word] + [str(source.randint(-most if word == "turn" else 0, most)) for _ in range(WORDS[word])])


class SmallRings(Raising):
    """A Desk beside one worked by functions."""

    def test_line_by_line(self):
        source = Random(11)
        for ring in SMALL + [(8, 1), (8, 2), (9, 2), (12, 3)]:
            desk, other = Desk(ring), ByFunctions(ring)
            for _ in range(60):
                row = some_row(ring, other.lot, source)
                self.assertEqual((other.answer(row),), desk.say(row), row)
                self.assertEqual((ring, other.lot), (desk.ring(), desk.lot()))

    def test_many_lines_and_back(self):
        source = Random(12)
        for ring in SMALL + [(8, 1), (8, 2), (9, 3), (12, 3)]:
            desk, other, seen, undone = Desk(ring), ByFunctions(ring), [], []
            for _ in range(60):
                step = source.random()
                if step < 0.25:
                    if seen:
                        undone.append(other.lot)
                        other.lot = seen.pop()
                        self.assertEqual(len(seen), desk.undo())
                    else:
                        self.assert_raises(NothingDone, {}, desk.undo)
                elif step < 0.45:
                    if undone:
                        seen.append(other.lot)
                        other.lot = undone.pop()
                        self.assertEqual(len(seen), desk.redo())
                    else:
                        self.assert_raises(NothingDone, {}, desk.redo)
                else:
                    ahead = other.lot
                    rows = [some_row(ring, other.lot, source) for _ in range(source.randint(1, 5))]
                    answers = tuple(other.answer(row) for row in rows)
                    self.assertEqual(answers, desk.say("\n".join(rows)))
                    if "done" in answers:
                        seen.append(ahead)
                        undone = []
                self.assertEqual(other.lot, desk.lot())


class Lines(Raising):
    def test_each_good_line(self):
        for row in GOOD_LINES:
            other = ByFunctions((7, 2))
            self.assertEqual((other.answer(row),), Desk((7, 2)).say(row), row)

    def test_lines_that_are_none_of_the_table(self):
        for row in BAD_LINES:
            desk = Desk((7, 2))
            desk.say("swap 0 3\nmirror")
            kept = desk.lot()
            self.assert_raises(BadText, {"line": 0}, desk.say, row)
            self.assert_raises(BadText, {"line": 2}, desk.say, "mirror\nturn 1\n" + row + "\nturn 1")
            self.assert_raises(BadText, {"line": 1}, desk.say, "first\n" + row + "\n" + row + "\nword")
            self.assert_raises(BadText, {"line": 0}, desk.say, row + "\nmirror")
            self.assertEqual(kept, desk.lot())
            self.assertEqual(0, desk.undo())
            self.assert_raises(BadText, {"line": 1}, desk.say, "turn 2\n" + row)
            self.assertEqual(1, desk.redo())
            self.assertEqual(kept, desk.lot())

    def test_line_breaks(self):
        desk = Desk((7, 2))
        for text, line in (("", 0), ("\n", 0), ("mirror\n", 1), ("\nmirror", 0), ("mirror\n\nmirror", 1), ("falling\nfalling\n", 2)):
            self.assert_raises(BadText, {"line": line}, desk.say, text)
        self.assertEqual(LOW, desk.lot())
        self.assertEqual(("0",) * 500, desk.say("\n".join(["falling"] * 500)))

    def test_answers(self):
        desk = Desk((7, 2))
        self.assertEqual(("done", "no line", "no line", "no line"), desk.say("swap 0 3\nswap 0 3\nswap 5 2\nswap 0 99"))
        self.assertEqual(("in", "out", "out"), desk.say("kind 2 5\nkind 0 3\nkind 3 6"))
        self.assertEqual(("rim", "rim", "short", "short", "no line", "no line", "no line"), desk.say("kind 0 2\nkind 1 6\nkind 0 1\nkind 0 6\nkind 6 0\nkind 4 4\nkind 6 7"))
        self.assertEqual(("0 3", "no line", "no line"), desk.say("comes 2 5\ncomes 0 3\ncomes 5 2"))
        found = stars.stars_in((7, 2), desk.lot())
        self.assertEqual(tuple(told(own) for own in found) + ("no star",), desk.say("star 0\nstar 1\nstar 2\nstar 3"))
        self.assertEqual(("no star", "no star", "no star", "no star"), desk.say("meet 0 3\nmeet 3 0\nmeet 1 1\nmeet 3 3"))
        first, then = desk.say("meet 0 2\nmeet 2 0")
        self.assertEqual((told(meeting.met_line((7, 2), desk.lot(), found[0], found[2])),) * 2, (first, then))
        self.assertEqual(("2", "done", "1", "done", "0", "none"), desk.say("falling\nfather\nfalling\nfather\nfalling\nfather"))
        self.assertEqual(("done",) * 4, desk.say("first\nfirst\nturn 0\nturn 7"))
        self.assertEqual((LOW, LOW), (desk.lot(), Desk([7, 2]).lot()))

    def test_one_full_lot(self):
        for n, k in ((3, 1), (5, 2), (39, 19)):
            desk = Desk((n, k))
            self.assertEqual(((n, k), ()), (desk.ring(), desk.lot()))
            self.assertEqual(("no line", "done", "done", "none", "done", "no line"), desk.say(f"swap 0 {k}\nturn -5\nmirror\nfather\nfirst\ncomes 0 {k}"))
            self.assertEqual((told(range(n)), "no star", "no star", "no star", "rim", "no line", "0"), desk.say(f"star 0\nstar 1\nmeet 0 0\nmeet 0 1\nkind 0 {k}\nkind 0 {n}\nfalling"))
            self.assertEqual(("short",) if k > 1 else ("rim",), desk.say("kind 0 1"))
            self.assertEqual(0, desk.undo())
            self.assert_raises(NothingDone, {}, desk.undo)


class BackAndForth(Raising):
    def test_undo_and_redo(self):
        desk = Desk((7, 2))
        self.assert_raises(NothingDone, {}, desk.undo)
        self.assert_raises(NothingDone, {}, desk.redo)
        desk.say("kind 0 3\nfalling\nfather\nswap 6 0")
        self.assert_raises(NothingDone, {}, desk.undo)
        seen = [desk.lot()]
        for text in ("swap 0 3", "turn 2\nmirror\nturn 1", "swap 0 1\nfirst", "swap 0 4\nfather\nfalling", "turn 7"):
            desk.say(text)
            seen.append(desk.lot())
        self.assertEqual(seen[-1], seen[-2])
        for left in (4, 3, 2, 1, 0):
            self.assertEqual(left, desk.undo())
            self.assertEqual(seen[left], desk.lot())
        self.assert_raises(NothingDone, {}, desk.undo)
        for many in (1, 2, 3, 4, 5):
            self.assertEqual(many, desk.redo())
            self.assertEqual(seen[many], desk.lot())
        self.assert_raises(NothingDone, {}, desk.redo)
        self.assertEqual(seen[5], desk.lot())

    def test_what_ends_redo(self):
        for text, ends in (("kind 0 3", False), ("swap 0 6\nfather", False), ("falling\nstar 0", False), ("first", True), ("turn 0", True), ("swap 0 4", True), ("falling\nturn 7\nfalling", True)):
            desk = Desk((7, 2))
            desk.say("swap 0 3")
            high = desk.lot()
            self.assertEqual(0, desk.undo())
            desk.say(text)
            if ends:
                self.assert_raises(NothingDone, {}, desk.redo)
                self.assertEqual(0, desk.undo())
                self.assertEqual(LOW, desk.lot())
            else:
                self.assertEqual(1, desk.redo())
                self.assertEqual(high, desk.lot())
        desk = Desk((7, 2))
        desk.say("swap 0 3")
        desk.undo()
        self.assert_raises(BadText, {"line": 1}, desk.say, "first\nturn")
        self.assertEqual(1, desk.redo())

    def test_a_say_is_taken_back_whole(self):
        desk = Desk((7, 2))
        desk.say("swap 0 3\nswap 0 4\nturn 3")
        self.assertEqual((0, LOW), (desk.undo(), desk.lot()))
        # a say that is answered "done" may be back where it began
        desk.say("turn 1\nturn -1")
        self.assertEqual((LOW, 0, LOW), (desk.lot(), desk.undo(), desk.lot()))

    def test_twins(self):
        desk = Desk((7, 2))
        desk.say("swap 0 3")
        desk.say("mirror")
        desk.say("turn 2")
        desk.undo()
        other = desk.twin()
        self.assertIsInstance(other, Desk)
        self.assertIsNot(other, desk)
        self.assertTrue(other == desk and not other != desk)
        self.assertEqual((3, 3), (desk.redo(), other.redo()))
        self.assertTrue(other == desk)
        for left in (2, 1, 0):
            self.assertEqual(left, other.undo())
        self.assertEqual(LOW, other.lot())
        self.assertTrue(other != desk and not other == desk)
        self.assertEqual((1, 2), (other.redo(), desk.undo()))
        other.say("first")
        self.assert_raises(NothingDone, {}, other.redo)
        self.assertEqual(3, desk.redo())
        third = desk.twin().twin()
        desk.say("first")
        self.assertEqual(2, third.undo())
        self.assertEqual(4, len([desk.undo() for _ in range(4)]))

    def test_alike(self):
        desk, other = Desk((7, 2)), Desk((7, 2))
        self.assertTrue(desk == other and not desk != other)
        desk.say("turn 7")
        self.assertTrue(desk == other)
        desk.say("turn 1")
        self.assertTrue(desk != other and not desk == other)
        other.say("mirror")
        other.say("first\nturn 1")
        self.assertTrue(desk == other)
        # the only FULL LOT of either is (), but the rings are unlike
        self.assertTrue(Desk((5, 2)) != Desk((3, 1)) and not Desk((5, 2)) == Desk((3, 1)))
        for value in (None, (7, 2), LOW, 5, "desk", [desk]):
            self.assertTrue(desk != value and not desk == value)

    def test_nothing_handed_in_or_out_changes_it(self):
        ring = [7, 2]
        desk = Desk(ring)
        ring[0] = 9
        self.assertEqual(((7, 2), LOW), (desk.ring(), desk.lot()))
        self.assertIsInstance(desk.lot(), tuple)
        self.assertIsInstance(desk.say("falling"), tuple)
        self.assertEqual((7, 2), Desk(ring=(7, 2)).ring())
        self.assertEqual(("done",), Desk((7, 2)).say(text="mirror"))

    def test_wrong_rings(self):
        for ring in no_rings((7, 2)):
            self.assert_raises(Unfit, {}, Desk, ring)


class GreatRings(Raising):
    def test_all_lines(self):
        source = Random(13)
        for ring in GREAT:
            desk, other = Desk(ring), ByFunctions(ring)
            rows = ["turn 3", "mirror"]
            for row in rows:
                other.answer(row)
            self.assertEqual(("done", "done"), desk.say("\n".join(rows)))
            for _ in range(25):
                row = some_row(ring, other.lot, source)
                self.assertEqual((other.answer(row),), desk.say(row), row)
                self.assertEqual(other.lot, desk.lot())
            self.assertTrue(desk.twin() == desk)


if __name__ == "__main__":
    unittest.main()
