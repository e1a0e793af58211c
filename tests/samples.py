"""For each function of the interface calls that answer, and what may be wrong with them.

An argument is told by its name, the kind of [wrong.py] and a value. LATE are values of the right
kind for which an error behind Unfit() is stated.
"""

from starsinaring import corners, crowds, filling, lines, lots, meeting, particles, runs, signs, stars, wires
from starsinaring.errors import CanNot, NoLine, NoPoint, NoStar

RING = (8, 2)
LONG = ((0, 3), (0, 4), (0, 5), (1, 4), (1, 5), (1, 6), (2, 5), (2, 6), (2, 7), (3, 6), (3, 7), (4, 7))
MIXED = ((0, 1), (0, 4), (1, 3), (1, 6), (2, 7), (3, 5))
FAN = ((0, 3), (0, 4), (0, 5), (1, 4), (1, 5), (1, 6))
DRAWING = ((0, 4), (1, 4), (1, 5), (2, 6), (3, 7))
LOT = ((0, 3), (1, 5), (2, 5), (4, 7))
FULL = ((0, 3), (0, 4), (0, 5), (1, 5), (2, 5), (4, 7))
OUT = ((1, 4), (1, 6), (2, 6), (2, 7), (3, 6), (3, 7))
STARS = ((0, 1, 2, 3, 5), (0, 1, 4, 5, 7), (0, 2, 3, 4, 5), (0, 4, 5, 6, 7))
TABLE = (
    (None, (1, 4), (2, 7), (2, 6)), ((1, 4), None, (3, 7), (3, 6)), ((2, 7), (3, 7), None, (1, 6)), ((2, 6), (3, 6), (1, 6), None),
)
NO_POINTS = [(-1, NoPoint, {"point": -1}), (8, NoPoint, {"point": 8}), (10 ** 6, NoPoint, {"point": 10 ** 6})]

_RING = ("ring", "ring", RING)
_DRAWN = (_RING, ("drawing", "drawing", DRAWING))
_WITH = (_RING, ("lot", "lot", LOT))
_FULL = (_RING, ("lot", "full", FULL))
_CORNER = ("corner", "corner", (5, 7, 1))
_STAR = ("star", "star", STARS[0])
_OTHER = ("other", "star", STARS[3])

SAMPLES = [
    (signs.words, [("text", "text", "ring 6 2 # no\nrow")]),
    (signs.text_of, [("words", "words", (("ring", 0), ("6", 0), ("row", 2)))]),
    (signs.number_of, [("word", "text", "-12")]),
    (signs.word_of, [("number", "any", -12)]),
    (lines.is_ring, [("thing", "thing", RING)]),
    (lines.is_line, [_RING, ("thing", "thing", (2, 5))]),
    (lines.length_of, [_RING, ("line", "line", (1, 7))]),
    (lines.kind_of, [_RING, ("line", "line", (1, 7))]),
    (lines.long_lines, [_RING]),
    (lines.rim_lines, [_RING]),
    (lines.how_many_long, [_RING]),
    (lines.long_at, [_RING, ("point", "number", 3)]),
    (lines.line_number, [_RING, ("line", "line", (1, 5))]),
    (lines.line_at, [_RING, ("number", "count", 4)]),
    (lines.steps_up, [_RING, ("point", "number", 6), ("far", "number", 1)]),
    (lines.strictly_between, [_RING, ("point", "number", 6), ("far", "number", 1)]),
    (lines.sides_of, [_RING, ("line", "line", (2, 5))]),
    (lines.do_cross, [_RING, ("line", "line", (2, 5)), ("other", "line", (3, 7))]),
    (lines.crossers, [_RING, ("line", "line", (2, 5))]),
    (crowds.is_crowd, [_RING, ("thing", "thing", ((0, 3), (1, 4)))]),
    (crowds.crowd_of, [_RING, ("points", "ends", (1, 2, 4, 7))]),
    (crowds.points_of, [_RING, ("crowd", "crowd", ((0, 3), (1, 4), (2, 6)))]),
    (crowds.how_many_crowds, [_RING, ("number", "count", 3)]),
    (crowds.crowds_in, [_RING, ("lines", "lines", MIXED), ("number", "count", 2)]),
    (crowds.how_great, [_RING, ("lines", "lines", MIXED)]),
    (crowds.greatest_crowd, [_RING, ("lines", "lines", MIXED)]),
    (crowds.crowd_with, [_RING, ("lines", "lines", MIXED), ("line", "line", (2, 4))]),
    (crowds.is_greatest_crowd, [_RING, ("lines", "lines", MIXED), ("thing", "thing", ((0, 4), (1, 6), (2, 7)))]),
    (crowds.how_often, [_RING, ("lines", "lines", MIXED)]),
    (runs.how_many_lanes, [_RING]),
    (runs.how_many_runs, [_RING]),
    (runs.how_many_ties, [_RING]),
    (runs.run_of, [_RING, ("run", "number", 2)]),
    (runs.runs_of, [_RING]),
    (runs.run_end, [_RING, ("run", "number", 3)]),
    (runs.tie_of, [_RING, ("line", "line", (1, 6))]),
    (runs.is_tie, [_RING, ("thing", "thing", (1, 2))]),
    (runs.line_tied, [_RING, ("run", "number", 3), ("lane", "number", 2)]),
    (runs.ties_above, [_RING, ("lane", "number", 2)]),
    (runs.upper_next, [_RING, ("line", "line", (1, 6))]),
    (runs.lower_next, [_RING, ("line", "line", (1, 6))]),
    (runs.ties_met, [_RING, ("line", "line", (0, 4)), ("other", "line", (2, 6))]),
    (particles.low_lanes, [*_DRAWN, ("low", "number", 2)]),
    (particles.lanes_of_low, [*_DRAWN, ("low", "number", 2), ("index", "number", 1)]),
    (particles.held_by, [*_DRAWN, ("low", "number", 2), ("index", "number", 2), ("run", "number", 1)]),
    (particles.comes, [*_DRAWN, ("low", "number", 3), ("index", "number", 2)]),
    (particles.how_many_below, [*_DRAWN, ("low", "number", 2)]),
    (particles.falls_short, [*_DRAWN]),
    (particles.all_come, [*_DRAWN]),
    (particles.read_back, [*_DRAWN, ("low", "number", 2), ("index", "number", 2)]),
    (particles.noted, [*_DRAWN]),
    (particles.is_noted, [*_DRAWN, ("thing", "thing", ((0, 4), (1, 5), (2, 6)))]),
    (particles.least_width, [_RING, ("lines", "lines", MIXED)]),
    (lots.is_lot, [_RING, ("thing", "thing", LOT)]),
    (lots.sifted, [*_DRAWN]),
    (lots.crossed_by, [*_WITH, ("line", "line", (1, 4))]),
    (lots.can_come, [*_WITH]),
    (lots.barred, [*_WITH]),
    (lots.put_to, [*_WITH, ("line", "line", (0, 5))]),
    (lots.struck, [*_WITH, ("line", "line", (1, 5))]),
    (lots.bar_of, [*_WITH, ("line", "line", (2, 7))]),
    (lots.is_bar, [*_WITH, ("line", "line", (2, 7)), ("thing", "thing", ((0, 3), (1, 5)))]),
    (lots.keys_to, [*_WITH, ("line", "line", (2, 7))]),
    (lots.are_one_lot, [*_WITH, ("other", "lot", ((0, 5), (1, 6)))]),
    (filling.is_full, [_RING, ("thing", "thing", FAN)]),
    (filling.full_size, [_RING]),
    (filling.lines_short, [*_WITH]),
    (filling.put_in_turn, [*_WITH, ("lines", "longrow", ((3, 7), (0, 5), (2, 5), (1, 4)))]),
    (filling.filled, [*_WITH]),
    (filling.filled_by, [*_WITH, ("lines", "longrow", ((3, 7), (2, 7), (2, 5), (1, 4)))]),
    (filling.why_not_full, [*_DRAWN]),
    (filling.is_why_not_full, [*_DRAWN, ("thing", "thing", ("crowd", ((0, 4), (1, 5), (2, 6))))]),
    (filling.fan_at, [_RING, ("point", "number", 7)]),
    (filling.fans_like, [_RING, ("lot", "full", FAN)]),
    (corners.neighbours, [*_WITH, ("point", "number", 5)]),
    (corners.corners_at, [*_WITH, ("point", "number", 5)]),
    (corners.all_corners, [*_WITH]),
    (corners.is_corner, [*_WITH, ("thing", "thing", (5, 7, 1))]),
    (corners.looks_at, [*_WITH, _CORNER]),
    (corners.corner_looking, [*_WITH, ("point", "number", 5), ("far", "number", 0)]),
    (corners.corners_of, [*_WITH, ("line", "line", (1, 5))]),
    (corners.next_corner, [*_WITH, _CORNER]),
    (corners.corner_ahead, [*_WITH, _CORNER]),
    (corners.corner_walk, [*_WITH, _CORNER]),
    (corners.walk_rounds, [*_WITH, _CORNER]),
    (corners.corner_walks, [*_WITH]),
    (corners.is_star_walk, [*_WITH, _CORNER]),
    (stars.is_star, [_RING, ("thing", "thing", (1, 2, 3, 5, 7))]),
    (stars.lines_of_star, [_RING, _STAR]),
    (stars.common_lines, [_RING, _STAR, ("other", "star", STARS[1])]),
    (stars.stars_in, [*_WITH]),
    (stars.is_star_in, [*_WITH, ("thing", "thing", STARS[0])]),
    (stars.how_many_stars, [*_WITH]),
    (stars.stars_at, [*_WITH, ("point", "number", 5)]),
    (stars.stars_of_line, [*_WITH, ("line", "line", (1, 5))]),
    (stars.rim_star, [*_WITH, ("point", "number", 1)]),
    (stars.star_of_corner, [*_WITH, ("corner", "corner", (5, 1, 2))]),
    (stars.stars_beside, [_RING, ("lot", "lot", FULL[:5]), _STAR]),
    (stars.lacking_lines, [*_WITH, ("star", "star", STARS[1])]),
    (stars.lot_with_stars, [_RING, ("group", "group", STARS[1:3])]),
    (stars.lot_of_stars, [_RING, ("group", "group", STARS)]),
    (stars.star_left, [_RING, ("group", "group", STARS[:2] + STARS[3:])]),
    (meeting.lines_out, [*_FULL]),
    (meeting.lot_without, [_RING, ("lines", "drawing", OUT)]),
    (meeting.met_line, [*_FULL, _STAR, _OTHER]),
    (meeting.met_stars, [*_FULL, ("line", "line", (2, 7))]),
    (meeting.couples, [*_FULL]),
    (meeting.couples_of, [*_FULL, _STAR]),
    (meeting.corner_of, [_RING, _STAR, ("point", "number", 3)]),
    (meeting.seen_from, [_RING, _STAR, ("point", "number", 4)]),
    (meeting.do_meet, [_RING, _STAR, _OTHER, ("line", "line", (2, 6))]),
    (meeting.all_meeting, [_RING, _STAR, _OTHER]),
    (meeting.get_along, [_RING, _STAR, _OTHER]),
    (wires.wire_way, [*_FULL, ("wire", "number", 2)]),
    (wires.star_of, [*_FULL, ("wire", "number", 2)]),
    (wires.wire_of, [*_FULL, _STAR]),
    (wires.cross_line, [*_FULL, ("wire", "number", 2), ("far", "number", 3)]),
    (wires.wires_at, [*_FULL, ("line", "line", (1, 5))]),
    (wires.order_behind, [*_FULL, ("run", "number", 2)]),
    (wires.crosses_told, [*_FULL]),
    (wires.lot_of_crosses, [_RING, ("table", "table", TABLE)]),
    (wires.passes, [*_DRAWN]),
    (wires.all_once, [*_DRAWN]),
    (wires.end_order, [*_DRAWN]),
]

NOT_LONG = [((0, 1), CanNot, {}), ((0, 2), CanNot, {}), ((0, 7), CanNot, {}), ((1, 7), CanNot, {})]
NO_RUNS = [(-1, CanNot, {}), (5, CanNot, {}), (6, CanNot, {}), (-5, CanNot, {}), (10 ** 6, CanNot, {})]
NO_LANES = [(0, CanNot, {}), (5, CanNot, {}), (-1, CanNot, {}), (10 ** 6, CanNot, {})]
NO_LOWS = [(0, CanNot, {}), (4, CanNot, {}), (-1, CanNot, {}), (-3, CanNot, {}), (10 ** 6, CanNot, {})]
NO_INDEXES = [(0, CanNot, {}), (3, CanNot, {}), (-1, CanNot, {}), (10 ** 6, CanNot, {})]
IN_LOT = [(line, NoLine, {"line": line}) for line in LOT]
NOT_OUT = [(line, NoLine, {"line": line}) for line in ((0, 1), (0, 2), (0, 7), (1, 7))] + IN_LOT
NOT_IN = [(line, NoLine, {"line": line}) for line in ((0, 1), (0, 2), (0, 7), (1, 7), (0, 4), (3, 7), (2, 7))]
NOT_SIDE = [(line, NoLine, {"line": line}) for line in ((0, 1), (0, 7), (0, 4), (2, 7))]
NO_STARS = [(star, NoStar, {"star": star}) for star in ((0, 1, 2, 3, 4), (0, 1, 2, 3, 6), (3, 4, 5, 6, 7))]
NO_WIRES = [(number, CanNot, {}) for number in (0, -1, 5, 6, 10 ** 6)]
TURNED = tuple(tuple(reversed(row)) for row in reversed(TABLE))

LATE = {
    (lines.long_at, "point"): NO_POINTS,
    (lines.line_number, "line"): NOT_LONG,
    (lines.line_at, "number"): [(12, CanNot, {}), (13, CanNot, {}), (10 ** 6, CanNot, {})],
    (lines.steps_up, "point"): NO_POINTS,
    (lines.steps_up, "far"): NO_POINTS,
    (lines.strictly_between, "point"): NO_POINTS,
    (lines.strictly_between, "far"): NO_POINTS,
    (crowds.crowd_of, "points"): [
        ((-3, -1, 2, 8), NoPoint, {"point": -3}), ((-1, 8), NoPoint, {"point": -1}), ((0, 1, 2, 8), NoPoint, {"point": 8}),
        ((7, 8), NoPoint, {"point": 8}), ((8, 9), NoPoint, {"point": 8}), ((0, 10 ** 6), NoPoint, {"point": 10 ** 6}),
    ],
    (runs.run_of, "run"): NO_RUNS,
    (runs.run_end, "run"): NO_RUNS,
    (runs.tie_of, "line"): NOT_LONG,
    (runs.line_tied, "run"): NO_RUNS + [(4, CanNot, {})],
    (runs.line_tied, "lane"): NO_LANES + [(3, CanNot, {}), (4, CanNot, {})],
    (runs.ties_above, "lane"): NO_LANES,
    (runs.upper_next, "line"): NOT_LONG,
    (runs.lower_next, "line"): NOT_LONG,
    (runs.ties_met, "line"): NOT_LONG,
    (runs.ties_met, "other"): NOT_LONG,
    (particles.low_lanes, "low"): NO_LOWS,
    (particles.lanes_of_low, "low"): NO_LOWS,
    (particles.lanes_of_low, "index"): NO_INDEXES,
    (particles.held_by, "low"): NO_LOWS,
    (particles.held_by, "index"): NO_INDEXES,
    (particles.held_by, "run"): NO_RUNS,
    (particles.comes, "low"): NO_LOWS,
    (particles.comes, "index"): NO_INDEXES[:1] + [(4, CanNot, {}), (-1, CanNot, {})],
    (particles.how_many_below, "low"): NO_LOWS,
    (particles.read_back, "low"): NO_LOWS,
    (particles.read_back, "index"): NO_INDEXES,
    (particles.noted, "drawing"): [((), CanNot, {}), (LOT, CanNot, {}), (FAN, CanNot, {})],
    (lots.put_to, "line"): NOT_OUT + [((1, 4), CanNot, {}), ((2, 6), CanNot, {})],
    (lots.struck, "line"): NOT_IN,
    (lots.bar_of, "line"): NOT_OUT + [((0, 4), CanNot, {}), ((0, 5), CanNot, {})],
    (lots.is_bar, "line"): NOT_OUT,
    (lots.keys_to, "line"): NOT_OUT,
    (filling.why_not_full, "drawing"): [(FAN, CanNot, {})],
    (filling.fan_at, "point"): NO_POINTS,
    (corners.neighbours, "point"): NO_POINTS,
    (corners.corners_at, "point"): NO_POINTS,
    (corners.corner_looking, "point"): NO_POINTS,
    (corners.corner_looking, "far"): NO_POINTS,
    (corners.corners_of, "line"): NOT_SIDE,
    (stars.stars_at, "point"): NO_POINTS,
    (stars.stars_of_line, "line"): NOT_SIDE,
    (stars.rim_star, "point"): NO_POINTS + [(2, CanNot, {}), (7, CanNot, {})],
    (stars.star_of_corner, "corner"): [((5, 7, 1), CanNot, {}), ((3, 5, 0), CanNot, {})],
    (stars.stars_beside, "star"): NO_STARS + [(STARS[1], NoStar, {"star": STARS[1]})],
    (stars.lot_with_stars, "group"): [((STARS[0], (0, 1, 2, 4, 6)), CanNot, {})],
    (stars.lot_of_stars, "group"): [(group, CanNot, {}) for group in ((), STARS[:1], STARS[1:], (STARS[0], (0, 1, 2, 4, 6)))],
    (stars.star_left, "group"): [(group, CanNot, {}) for group in ((), STARS[:1], STARS[2:], STARS)],
    (meeting.lot_without, "lines"): [(drawing, CanNot, {}) for drawing in ((), OUT[1:], LONG, OUT[1:] + ((4, 7),))],
    (meeting.met_line, "star"): NO_STARS + [(STARS[3], CanNot, {})],
    (meeting.met_line, "other"): NO_STARS + [(STARS[0], CanNot, {})],
    (meeting.met_stars, "line"): [(line, NoLine, {"line": line}) for line in ((0, 1), (0, 2), (0, 7), *FULL)],
    (meeting.couples_of, "star"): NO_STARS,
    (meeting.corner_of, "point"): NO_POINTS + [(4, CanNot, {}), (6, CanNot, {}), (7, CanNot, {})],
    (meeting.seen_from, "point"): NO_POINTS + [(0, CanNot, {}), (5, CanNot, {})],
    (wires.wire_way, "wire"): NO_WIRES,
    (wires.star_of, "wire"): NO_WIRES,
    (wires.wire_of, "star"): NO_STARS,
    (wires.cross_line, "wire"): NO_WIRES + [(3, CanNot, {})],
    (wires.cross_line, "far"): NO_WIRES + [(2, CanNot, {})],
    (wires.wires_at, "line"): [(line, NoLine, {"line": line}) for line in ((0, 1), (0, 7), (6, 7))],
    (wires.order_behind, "run"): NO_RUNS,
    (wires.lot_of_crosses, "table"): [(TURNED, CanNot, {})],
}
