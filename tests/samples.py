"""For each function of the interface calls that answer, and what may be wrong with them.

An argument is told by its name, the kind of [wrong.py] and a value. LATE are values of the right
kind for which an error behind Unfit() is stated.
"""

from starsinaring import crowds, lines, signs
from starsinaring.errors import CanNot, NoPoint

RING = (8, 2)
LONG = ((0, 3), (0, 4), (0, 5), (1, 4), (1, 5), (1, 6), (2, 5), (2, 6), (2, 7), (3, 6), (3, 7), (4, 7))
MIXED = ((0, 1), (0, 4), (1, 3), (1, 6), (2, 7), (3, 5))
NO_POINTS = [(-1, NoPoint, {"point": -1}), (8, NoPoint, {"point": 8}), (10 ** 6, NoPoint, {"point": 10 ** 6})]

_RING = ("ring", "ring", RING)

SAMPLES = [
    (signs.words, [("text", "text", "ring 6 2 # no\nrow")]),
    (signs.text_of, [("words", "words", (("ring", 0), ("6", 0), ("row", 2)))]),
    (signs.number_of, [("word", "text", "-12")]),
    (signs.word_of, [("number", "any", -12)]),
    (lines.is_ring, [("thing", "thing", RING)]),
    (lines.is_line, [_RING, ("thing", "thing", (2, 5))]),
    (lines.length_of, [_RING, ("line", "line", (1, 7))]),
    (lines.kind_of, [_RING, ("line", "line", (1, 7))]),
    (lines.long_lines, [_RING]),
    (lines.rim_lines, [_RING]),
    (lines.how_many_long, [_RING]),
    (lines.long_at, [_RING, ("point", "number", 3)]),
    (lines.line_number, [_RING, ("line", "line", (1, 5))]),
    (lines.line_at, [_RING, ("number", "count", 4)]),
    (lines.steps_up, [_RING, ("point", "number", 6), ("far", "number", 1)]),
    (lines.strictly_between, [_RING, ("point", "number", 6), ("far", "number", 1)]),
    (lines.sides_of, [_RING, ("line", "line", (2, 5))]),
    (lines.do_cross, [_RING, ("line", "line", (2, 5)), ("other", "line", (3, 7))]),
    (lines.crossers, [_RING, ("line", "line", (2, 5))]),
    (crowds.is_crowd, [_RING, ("thing", "thing", ((0, 3), (1, 4)))]),
    (crowds.crowd_of, [_RING, ("points", "ends", (1, 2, 4, 7))]),
    (crowds.points_of, [_RING, ("crowd", "crowd", ((0, 3), (1, 4), (2, 6)))]),
    (crowds.how_many_crowds, [_RING, ("number", "count", 3)]),
    (crowds.crowds_in, [_RING, ("lines", "lines", MIXED), ("number", "count", 2)]),
    (crowds.how_great, [_RING, ("lines", "lines", MIXED)]),
    (crowds.greatest_crowd, [_RING, ("lines", "lines", MIXED)]),
    (crowds.crowd_with, [_RING, ("lines", "lines", MIXED), ("line", "line", (2, 4))]),
    (crowds.is_greatest_crowd, [_RING, ("lines", "lines", MIXED), ("thing", "thing", ((0, 4), (1, 6), (2, 7)))]),
    (crowds.how_often, [_RING, ("lines", "lines", MIXED)]),
]

NOT_LONG = [((0, 1), CanNot, {}), ((0, 2), CanNot, {}), ((0, 7), CanNot, {}), ((1, 7), CanNot, {})]

LATE = {
    (lines.long_at, "point"): NO_POINTS,
    (lines.line_number, "line"): NOT_LONG,
    (lines.line_at, "number"): [(12, CanNot, {}), (13, CanNot, {}), (10 ** 6, CanNot, {})],
    (lines.steps_up, "point"): NO_POINTS,
    (lines.steps_up, "far"): NO_POINTS,
    (lines.strictly_between, "point"): NO_POINTS,
    (lines.strictly_between, "far"): NO_POINTS,
    (crowds.crowd_of, "points"): [
        ((-3, -1, 2, 8), NoPoint, {"point": -3}), ((-1, 8), NoPoint, {"point": -1}), ((0, 1, 2, 8), NoPoint, {"point": 8}),
        ((7, 8), NoPoint, {"point": 8}), ((8, 9), NoPoint, {"point": 8}), ((0, 10 ** 6), NoPoint, {"point": 10 ** 6}),
    ],
}
