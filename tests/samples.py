"""For each function of the interface calls that answer, and what may be wrong with them.

An argument is told by its name, the kind of [wrong.py] and a value. LATE are values of the right
kind for which an error behind Unfit() is stated.
"""

from starsinaring import crowds, filling, lines, lots, particles, runs, signs
from starsinaring.errors import CanNot, NoLine, NoPoint

RING = (8, 2)
LONG = ((0, 3), (0, 4), (0, 5), (1, 4), (1, 5), (1, 6), (2, 5), (2, 6), (2, 7), (3, 6), (3, 7), (4, 7))
MIXED = ((0, 1), (0, 4), (1, 3), (1, 6), (2, 7), (3, 5))
FAN = ((0, 3), (0, 4), (0, 5), (1, 4), (1, 5), (1, 6))
DRAWING = ((0, 4), (1, 4), (1, 5), (2, 6), (3, 7))
LOT = ((0, 3), (1, 5), (2, 5), (4, 7))
NO_POINTS = [(-1, NoPoint, {"point": -1}), (8, NoPoint, {"point": 8}), (10 ** 6, NoPoint, {"point": 10 ** 6})]

_RING = ("ring", "ring", RING)
_DRAWN = (_RING, ("drawing", "drawing", DRAWING))
_WITH = (_RING, ("lot", "lot", LOT))

SAMPLES = [
    (signs.words, [("text", "text", "ring 6 2 # no\nrow")]),
    (signs.text_of, [("words", "words", (("ring", 0), ("6", 0), ("row", 2)))]),
    (signs.number_of, [("word", "text", "-12")]),
    (signs.word_of, [("number", "any", -12)]),
    (lines.is_ring, [("thing", "thing", RING)]),
    (lines.is_line, [_RING, ("thing", "thing", (2, 5))]),
    (lines.length_of, [_RING, ("line", "line", (1, 7))]),
    (lines.kind_of, [_RING, ("line", "line", (1, 7))]),
    (lines.long_lines, [_RING]),
    (lines.rim_lines, [_RING]),
    (lines.how_many_long, [_RING]),
    (lines.long_at, [_RING, ("point", "number", 3)]),
    (lines.line_number, [_RING, ("line", "line", (1, 5))]),
    (lines.line_at, [_RING, ("number", "count", 4)]),
    (lines.steps_up, [_RING, ("point", "number", 6), ("far", "number", 1)]),
    (lines.strictly_between, [_RING, ("point", "number", 6), ("far", "number", 1)]),
    (lines.sides_of, [_RING, ("line", "line", (2, 5))]),
    (lines.do_cross, [_RING, ("line", "line", (2, 5)), ("other", "line", (3, 7))]),
    (lines.crossers, [_RING, ("line", "line", (2, 5))]),
    (crowds.is_crowd, [_RING, ("thing", "thing", ((0, 3), (1, 4)))]),
    (crowds.crowd_of, [_RING, ("points", "ends", (1, 2, 4, 7))]),
    (crowds.points_of, [_RING, ("crowd", "crowd", ((0, 3), (1, 4), (2, 6)))]),
    (crowds.how_many_crowds, [_RING, ("number", "count", 3)]),
    (crowds.crowds_in, [_RING, ("lines", "lines", MIXED), ("number", "count", 2)]),
    (crowds.how_great, [_RING, ("lines", "lines", MIXED)]),
    (crowds.greatest_crowd, [_RING, ("lines", "lines", MIXED)]),
    (crowds.crowd_with, [_RING, ("lines", "lines", MIXED), ("line", "line", (2, 4))]),
    (crowds.is_greatest_crowd, [_RING, ("lines", "lines", MIXED), ("thing", "thing", ((0, 4), (1, 6), (2, 7)))]),
    (crowds.how_often, [_RING, ("lines", "lines", MIXED)]),
    (runs.how_many_lanes, [_RING]),
    (runs.how_many_runs, [_RING]),
    (runs.how_many_ties, [_RING]),
    (runs.run_of, [_RING, ("run", "number", 2)]),
    (runs.runs_of, [_RING]),
    (runs.run_end, [_RING, ("run", "number", 3)]),
    (runs.tie_of, [_RING, ("line", "line", (1, 6))]),
    (runs.is_tie, [_RING, ("thing", "thing", (1, 2))]),
    (runs.line_tied, [_RING, ("run", "number", 3), ("lane", "number", 2)]),
    (runs.ties_above, [_RING, ("lane", "number", 2)]),
    (runs.upper_next, [_RING, ("line", "line", (1, 6))]),
    (runs.lower_next, [_RING, ("line", "line", (1, 6))]),
    (runs.ties_met, [_RING, ("line", "line", (0, 4)), ("other", "line", (2, 6))]),
    (particles.low_lanes, [*_DRAWN, ("low", "number", 2)]),
    (particles.lanes_of_low, [*_DRAWN, ("low", "number", 2), ("index", "number", 1)]),
    (particles.held_by, [*_DRAWN, ("low", "number", 2), ("index", "number", 2), ("run", "number", 1)]),
    (particles.comes, [*_DRAWN, ("low", "number", 3), ("index", "number", 2)]),
    (particles.how_many_below, [*_DRAWN, ("low", "number", 2)]),
    (particles.falls_short, [*_DRAWN]),
    (particles.all_come, [*_DRAWN]),
    (particles.read_back, [*_DRAWN, ("low", "number", 2), ("index", "number", 2)]),
    (particles.noted, [*_DRAWN]),
    (particles.is_noted, [*_DRAWN, ("thing", "thing", ((0, 4), (1, 5), (2, 6)))]),
    (particles.least_width, [_RING, ("lines", "lines", MIXED)]),
    (lots.is_lot, [_RING, ("thing", "thing", LOT)]),
    (lots.sifted, [*_DRAWN]),
    (lots.crossed_by, [*_WITH, ("line", "line", (1, 4))]),
    (lots.can_come, [*_WITH]),
    (lots.barred, [*_WITH]),
    (lots.put_to, [*_WITH, ("line", "line", (0, 5))]),
    (lots.struck, [*_WITH, ("line", "line", (1, 5))]),
    (lots.bar_of, [*_WITH, ("line", "line", (2, 7))]),
    (lots.is_bar, [*_WITH, ("line", "line", (2, 7)), ("thing", "thing", ((0, 3), (1, 5)))]),
    (lots.keys_to, [*_WITH, ("line", "line", (2, 7))]),
    (lots.are_one_lot, [*_WITH, ("other", "lot", ((0, 5), (1, 6)))]),
    (filling.is_full, [_RING, ("thing", "thing", FAN)]),
    (filling.full_size, [_RING]),
    (filling.lines_short, [*_WITH]),
    (filling.put_in_turn, [*_WITH, ("lines", "longrow", ((3, 7), (0, 5), (2, 5), (1, 4)))]),
    (filling.filled, [*_WITH]),
    (filling.filled_by, [*_WITH, ("lines", "longrow", ((3, 7), (2, 7), (2, 5), (1, 4)))]),
    (filling.why_not_full, [*_DRAWN]),
    (filling.is_why_not_full, [*_DRAWN, ("thing", "thing", ("crowd", ((0, 4), (1, 5), (2, 6))))]),
    (filling.fan_at, [_RING, ("point", "number", 7)]),
    (filling.fans_like, [_RING, ("lot", "full", FAN)]),
]

NOT_LONG = [((0, 1), CanNot, {}), ((0, 2), CanNot, {}), ((0, 7), CanNot, {}), ((1, 7), CanNot, {})]
NO_RUNS = [(-1, CanNot, {}), (5, CanNot, {}), (6, CanNot, {}), (-5, CanNot, {}), (10 ** 6, CanNot, {})]
NO_LANES = [(0, CanNot, {}), (5, CanNot, {}), (-1, CanNot, {}), (10 ** 6, CanNot, {})]
NO_LOWS = [(0, CanNot, {}), (4, CanNot, {}), (-1, CanNot, {}), (-3, CanNot, {}), (10 ** 6, CanNot, {})]
NO_INDEXES = [(0, CanNot, {}), (3, CanNot, {}), (-1, CanNot, {}), (10 ** 6, CanNot, {})]
IN_LOT = [(line, NoLine, {"line": line}) for line in LOT]
NOT_OUT = [(line, NoLine, {"line": line}) for line in ((0, 1), (0, 2), (0, 7), (1, 7))] + IN_LOT
NOT_IN = [(line, NoLine, {"line": line}) for line in ((0, 1), (0, 2), (0, 7), (1, 7), (0, 4), (3, 7), (2, 7))]

LATE = {
    (lines.long_at, "point"): NO_POINTS,
    (lines.line_number, "line"): NOT_LONG,
    (lines.line_at, "number"): [(12, CanNot, {}), (13, CanNot, {}), (10 ** 6, CanNot, {})],
    (lines.steps_up, "point"): NO_POINTS,
    (lines.steps_up, "far"): NO_POINTS,
    (lines.strictly_between, "point"): NO_POINTS,
    (lines.strictly_between, "far"): NO_POINTS,
    (crowds.crowd_of, "points"): [
        ((-3, -1, 2, 8), NoPoint, {"point": -3}), ((-1, 8), NoPoint, {"point": -1}), ((0, 1, 2, 8), NoPoint, {"point": 8}),
        ((7, 8), NoPoint, {"point": 8}), ((8, 9), NoPoint, {"point": 8}), ((0, 10 ** 6), NoPoint, {"point": 10 ** 6}),
    ],
    (runs.run_of, "run"): NO_RUNS,
    (runs.run_end, "run"): NO_RUNS,
    (runs.tie_of, "line"): NOT_LONG,
    (runs.line_tied, "run"): NO_RUNS + [(4, CanNot, {})],
    (runs.line_tied, "lane"): NO_LANES + [(3, CanNot, {}), (4, CanNot, {})],
    (runs.ties_above, "lane"): NO_LANES,
    (runs.upper_next, "line"): NOT_LONG,
    (runs.lower_next, "line"): NOT_LONG,
    (runs.ties_met, "line"): NOT_LONG,
    (runs.ties_met, "other"): NOT_LONG,
    (particles.low_lanes, "low"): NO_LOWS,
    (particles.lanes_of_low, "low"): NO_LOWS,
    (particles.lanes_of_low, "index"): NO_INDEXES,
    (particles.held_by, "low"): NO_LOWS,
    (particles.held_by, "index"): NO_INDEXES,
    (particles.held_by, "run"): NO_RUNS,
    (particles.comes, "low"): NO_LOWS,
    (particles.comes, "index"): NO_INDEXES[:1] + [(4, CanNot, {}), (-1, CanNot, {})],
    (particles.how_many_below, "low"): NO_LOWS,
    (particles.read_back, "low"): NO_LOWS,
    (particles.read_back, "index"): NO_INDEXES,
    (particles.noted, "drawing"): [((), CanNot, {}), (LOT, CanNot, {}), (FAN, CanNot, {})],
    (lots.put_to, "line"): NOT_OUT + [((1, 4), CanNot, {}), ((2, 6), CanNot, {})],
    (lots.struck, "line"): NOT_IN,
    (lots.bar_of, "line"): NOT_OUT + [((0, 4), CanNot, {}), ((0, 5), CanNot, {})],
    (lots.is_bar, "line"): NOT_OUT,
    (lots.keys_to, "line"): NOT_OUT,
    (filling.why_not_full, "drawing"): [(FAN, CanNot, {})],
    (filling.fan_at, "point"): NO_POINTS,
}
