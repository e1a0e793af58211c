"""One judge: claims, papers against them, reasons for them."""

import unittest

from starsinaring import exchange, judge, meeting, stars
from starsinaring.errors import Unfit
from tests import plain
from tests.raising import Raising
from tests.rings import GREAT, great_full_lots
from tests.wrong import nested

# rings all CLAIMS of which are tried
RINGS = [(3, 1), (4, 1), (5, 1), (5, 2), (6, 2), (6, 1), (7, 2), (8, 3)]
SIX, TWO, THREE = (6, 2), ((0, 3), (1, 4)), ((0, 3), (1, 4), (2, 5))
STAR, BOTH = (0, 1, 2, 3, 4), ((0, 1, 2, 3, 4), (0, 1, 3, 4, 5))
CORNERS = ((0, 2, 3), (1, 3, 4), (2, 4, 0), (3, 0, 1), (4, 1, 2))
STANDING = [
    ("lot", SIX, TWO), ("lot", SIX, ()), ("full", SIX, TWO), ("star", SIX, TWO, STAR), ("exchange", SIX, TWO, (0, 3), (2, 5)), ("out", SIX, TWO, (2, 5)),
    ("lot", (3, 1), ()), ("full", (3, 1), ()), ("star", (3, 1), (), (0, 1, 2)), ("full", (39, 19), ()),
]
FALLEN = [
    ("lot", SIX, THREE), ("full", SIX, TWO[:1]), ("full", SIX, ()), ("star", SIX, TWO, (0, 1, 2, 3, 5)), ("out", SIX, TWO[:1], (2, 5)), ("out", SIX, (), (0, 3)),
    ("exchange", (5, 1), ((0, 2), (0, 3)), (0, 2), (2, 4)), ("exchange", (7, 2), ((0, 3), (0, 4), (1, 4), (1, 5)), (0, 3), (2, 6)),
]


def all_claims(ring):
    """All CLAIMS of ring."""
    n, k = ring
    long, full = plain.long_lines(ring), plain.full_lots(ring)
    step = 1 if len(long) < 8 else 3
    found = [("lot", ring, own) for own in plain.subsets(long)[::step]] + [("full", ring, own) for own in plain.all_lots(ring)]
    found += [("star", ring, lot, star) for lot in full for star in plain.all_stars(ring)]
    found += [("exchange", ring, lot, line, other) for lot in full for line in lot for other in long if other not in lot]
    return found + [("out", ring, lot, line) for lot in plain.all_lots(ring) for line in long if line not in lot]


def with_line(lot, line):
    return tuple(sorted({*lot, line}))


def papers(claim):
    """All PAPERS against claim, as the table of the document tells them."""
    word, (n, k), lot, *rest = claim
    ring, table = (n, k), plain.cross_table(n)
    if word == "lot":
        return plain.crowds(table, lot, k + 1)
    if word == "full":
        return [line for line in plain.long_lines(ring) if line not in lot and with_line(lot, line) in plain.all_lots(ring)]
    if word == "star":
        return [line for line in plain.star_lines(rest[0]) if line not in plain.sides(ring, lot)]
    if word == "exchange":
        return plain.crowds(table, plain.swapped(lot, *rest), k + 1)
    return plain.full_with(ring, with_line(lot, rest[0]))


def reasons(claim):
    """All REASONS for claim, as the table of the document tells them."""
    word, (n, k), lot, *rest = claim
    ring, table = (n, k), plain.cross_table(n)
    if word == "lot":
        return plain.full_with(ring, lot)
    if word == "full":
        return [plain.stars_in(ring, lot)] if lot in plain.full_lots(ring) else []
    if word == "star":
        corners = tuple(plain.star_corners(rest[0])[point] for point in rest[0])
        return [corners] if set(corners) <= set(plain.all_corners(ring, lot)) else []
    if word == "exchange":
        both = tuple(star for star in plain.stars_in(ring, lot) if rest[0] in plain.star_lines(star))
        return [both] if plain.meets(n, rest[1], *both) else []
    return plain.crowds(table, [own for own in lot if (own, rest[0]) in table], k)


class SmallRings(Raising):
    """Each function beside a plain search over all CLAIMS."""

    def test_all_claims(self):
        for ring in RINGS:
            for claim in all_claims(ring):
                against, behind = papers(claim), reasons(claim)
                self.assertEqual(bool(against), not behind, claim)
                self.assertIs(judge.is_claim(claim), True)
                self.assertIs(judge.is_so(claim), bool(behind), claim)
                paper, reason = judge.paper_against(claim), judge.reason_for(claim)
                if against:
                    self.assertIn(paper, against)
                    self.assertIsNone(reason)
                    self.assertIs(judge.is_paper_against(claim, paper), True)
                else:
                    self.assertIn(reason, behind)
                    self.assertIsNone(paper)
                    self.assertIs(judge.is_reason_for(claim, reason), True)
                self.assertEqual(0 if against else None, judge.first_fallen((claim,)))

    def test_all_papers_and_reasons(self):
        for ring in RINGS:
            claims = all_claims(ring)
            things = {}
            for claim in claims[::max(1, len(claims) // 150)]:
                for own in papers(claim)[:9] + reasons(claim)[:9]:
                    things[own] = True
            things = list(things) + [(), None, True, 0, (0,), ((0, 1),), [], "lot", nested(20, 0)]
            for claim in claims[::max(1, len(claims) // 60)]:
                against, behind = papers(claim), reasons(claim)
                for thing in things[::max(1, len(things) // 90)] + against[:20] + behind[:20]:
                    self.assertIs(judge.is_paper_against(claim, thing), thing in against, (claim, thing))
                    self.assertIs(judge.is_reason_for(claim, thing), thing in behind, (claim, thing))
                for good in against[:1] + behind[:1]:
                    for thing in [list(good)] + [plain.lists_at(good, depth) for depth in range(plain.depth_of(good))]:
                        self.assertIs(judge.is_paper_against(claim, thing), False)
                        self.assertIs(judge.is_reason_for(claim, thing), False)

    def test_what_crowds_and_stars_of_others_are(self):
        for claim in [own for ring in RINGS[:6] for own in all_claims(ring)][::17]:
            for other in (plain.all_stars(claim[1])[:2], plain.full_lots(claim[1])[0], plain.long_lines(claim[1])[:1], plain.rim_lines(claim[1])[:2]):
                self.assertIs(judge.is_paper_against(claim, other), other in papers(claim))
                self.assertIs(judge.is_reason_for(claim, other), other in reasons(claim))


class Claims(Raising):
    def test_what_is_no_claim(self):
        bad_rings = (None, 6, (6,), (4, 2), (6, True), (6, 2, 1), "62", ((6, 2),), ())
        bad_drawings = (None, 5, "", (0, 3), TWO[::-1], ((0, 2),), ((0, 1),), ((0, 6),), ((0, True),), ((0, 3), (0, 3)), ((0, 3), None), ((3, 0),), (((0, 3),),), nested(19, 0))
        bad_lines = (None, 5, (0,), (0, 3, 4), (3, 0), (0, 2), (0, 1), (0, 6), (False, 3), "03", ((0, 3),), nested(19, 0))
        bad_stars = (None, 5, (), STAR[1:], STAR + (5,), STAR[::-1], (0, 1, 2, 3, 6), (False, 1, 2, 3, 4), "01234", (STAR,), (0, 1, 2, 2, 3), nested(19, 0))
        bad = [None, True, 5, "", "lot", (), ("lot",), ("lot", SIX), ("lot", SIX, TWO, ()), ("lots", SIX, TWO), (None, SIX, TWO), (0, SIX, TWO), ([], SIX, TWO), ("", SIX, TWO), (("lot",), SIX, TWO),
               ({}, SIX, TWO), ("full", SIX), ("full", SIX, TWO, TWO), ("star", SIX, TWO), ("star", SIX, TWO, STAR, STAR), ("exchange", SIX, TWO, (0, 3)),
               ("exchange", SIX, TWO, (0, 3), (2, 5), (2, 5)), ("out", SIX, TWO), ("out", SIX, TWO, (2, 5), (2, 5)), (SIX, "lot", TWO), ("lot", TWO, SIX), nested(20, "lot"), SIX]
        for ring in bad_rings:
            bad += [("lot", ring, ()), ("full", ring, ()), ("star", ring, TWO, STAR), ("exchange", ring, TWO, (0, 3), (2, 5)), ("out", ring, TWO, (2, 5))]
        for drawing in bad_drawings:
            bad += [("lot", SIX, drawing), ("full", SIX, drawing), ("star", SIX, drawing, STAR), ("exchange", SIX, drawing, (0, 3), (2, 5)), ("out", SIX, drawing, (2, 5))]
        bad += [("full", SIX, THREE), ("out", SIX, THREE, (2, 5)), ("star", SIX, THREE, STAR), ("star", SIX, TWO[:1], STAR), ("star", SIX, (), STAR), ("exchange", SIX, TWO[:1], (0, 3), (2, 5)),
                ("exchange", SIX, THREE, (0, 3), (2, 5)), ("exchange", SIX, (), (0, 3), (2, 5)), ("exchange", SIX, TWO, (2, 5), (0, 3)), ("exchange", SIX, TWO, (0, 3), (1, 4)),
                ("exchange", SIX, TWO, (0, 3), (0, 3)), ("exchange", SIX, TWO, (2, 5), (2, 5)), ("out", SIX, TWO, (0, 3)), ("out", SIX, TWO, (1, 4))]
        for line in bad_lines:
            bad += [("exchange", SIX, TWO, line, (2, 5)), ("exchange", SIX, TWO, (0, 3), line), ("out", SIX, TWO, line)]
        bad += [("star", SIX, TWO, star) for star in bad_stars]
        for claim in bad:
            self.assertIs(judge.is_claim(claim), False, claim)
            for function in (judge.is_so, judge.paper_against, judge.reason_for):
                self.assert_raises(Unfit, {}, function, claim)
            for function in (judge.is_paper_against, judge.is_reason_for):
                self.assert_raises(Unfit, {}, function, claim, nested(20, ()))
            self.assert_raises(Unfit, {}, judge.first_fallen, (claim,))
            self.assert_raises(Unfit, {}, judge.first_fallen, (FALLEN[0], claim))

    def test_lists_are_no_claims_but_may_be_passed(self):
        for claim in STANDING + FALLEN:
            self.assertIs(judge.is_claim(claim), True, claim)
            good = claim in STANDING
            for own in [plain.deep_list(claim)] + [plain.lists_at(claim, depth) for depth in range(plain.depth_of(claim))]:
                self.assertIs(judge.is_claim(own), False)
                self.assertIs(judge.is_so(own), good)
                self.assertEqual(judge.paper_against(claim), judge.paper_against(own))
                self.assertEqual(judge.reason_for(claim), judge.reason_for(own))
                self.assertIs(judge.is_reason_for(own, judge.reason_for(claim)), good)
                self.assertIs(judge.is_paper_against(own, judge.paper_against(claim)), not good)
                self.assertEqual(None if good else 0, judge.first_fallen([own]))

    def test_claims_of_rings_of_any_size(self):
        huge = 10 ** 100
        for claim, good in ((("lot", (huge, 3), ((0, 9), (5, 10 ** 50))), True), (("lot", (huge, 3), ((0, 3),)), False), (("full", (2 * huge + 1, huge), ()), True), (("full", (huge, huge), ()), False),
                            (("full", (huge, 1), ((0, 7), (2, 10 ** 90))), False), (("full", (10 ** 6, 2), ((0, 70), (2, 10 ** 5))), True), (("out", (10 ** 6, 1), ((0, 2),), (1, 5)), True),
                            (("out", (10 ** 6, 1), ((0, 2),), (0, 1)), False), (("star", (huge, 1), (), (0, 1, 2)), False), (("exchange", (huge, 2), (), (0, 5), (1, 7)), False)):
            self.assertIs(judge.is_claim(claim), good, claim)

    def test_first_fallen(self):
        self.assertIsNone(judge.first_fallen(()))
        self.assertIsNone(judge.first_fallen([]))
        self.assertIsNone(judge.first_fallen(tuple(STANDING)))
        for at in range(len(STANDING)):
            for claim in FALLEN:
                self.assertEqual(at, judge.first_fallen((*STANDING[:at], claim, *STANDING[at:], FALLEN[0])))
        for claims in (None, 5, "lot", True, STANDING[0], {0: STANDING[0]}, (STANDING[0], None), (FALLEN[0], ("lot", SIX)), [FALLEN[0], [STANDING[0]]]):
            self.assert_raises(Unfit, {}, judge.first_fallen, claims)


class Things(Raising):
    def test_values_like_papers_and_reasons(self):
        like = {
            ("lot", SIX, THREE): ("paper", [THREE, list(THREE), THREE[:2], THREE[::-1], ((False, 3), (1, 4), (2, 5)), ((0, 3), (True, 4), (2, 5)), (THREE,), THREE + THREE]),
            ("full", SIX, TWO[:1]): ("paper", [(2, 5), [2, 5], (5, 2), (0, 3), (0, 2), ((2, 5),), (2, 5, 0), (2.0, 5), "25", (2,)]),
            ("star", SIX, TWO, (0, 1, 2, 3, 5)): ("paper", [(2, 5), [2, 5], (5, 2), (0, 3), (0, 2), ((2, 5),), (1, 3)]),
            ("star", (5, 1), ((0, 2), (0, 3)), (1, 3, 4)): ("paper", [(1, 3), (True, 3), [1, 3], (3, 1), (0, 3), (3, 4), ((1, 3),)]),
            ("out", SIX, TWO[:1], (2, 5)): ("paper", [((0, 3), (2, 5)), [(0, 3), (2, 5)], ((2, 5), (0, 3)), ((0, 3), (1, 4)), ((1, 4), (2, 5)), ((2, 5),), THREE, ((False, 3), (2, 5))]),
            ("exchange", (5, 1), ((0, 2), (0, 3)), (0, 2), (2, 4)): ("paper", [((0, 3), (2, 4)), [(0, 3), (2, 4)], ((2, 4), (0, 3)), ((0, 2), (2, 4)), ((0, 3),), ((0, 2), (1, 3))]),
            ("lot", SIX, TWO[:1]): ("reason", [TWO, list(TWO), TWO[:1], THREE, TWO[::-1], ((1, 4), (2, 5)), ((False, 3), (1, 4)), (TWO,)]),
            ("full", SIX, TWO): ("reason", [BOTH, list(BOTH), BOTH[:1], BOTH[::-1], BOTH + BOTH, ((False, 1, 2, 3, 4), BOTH[1]), ((0, True, 2, 3, 4), BOTH[1]), (list(STAR), BOTH[1])]),
            ("star", SIX, TWO, STAR): ("reason", [CORNERS, list(CORNERS), CORNERS[::-1], CORNERS[1:], ((False, 2, 3),) + CORNERS[1:], CORNERS[:1] + ((True, 3, 4),) + CORNERS[2:], ([0, 2, 3],) + CORNERS[1:],
                                                  CORNERS[:4] + ((4, 1, 3),), CORNERS + CORNERS[:1], (CORNERS,), CORNERS[:4] + (None,)]),
            ("exchange", SIX, TWO, (0, 3), (2, 5)): ("reason", [BOTH, list(BOTH), BOTH[:1], BOTH[::-1], (BOTH[0], (0, 1, 2, 3, 5)), ((False, 1, 2, 3, 4), BOTH[1]), (BOTH,)]),
            ("out", SIX, TWO, (2, 5)): ("reason", [TWO, list(TWO), TWO[:1], TWO[::-1], ((0, 3), (2, 5)), THREE, ((0, 3), (True, 4)), ((0, 3), [1, 4])]),
        }
        for claim, (word, things) in like.items():
            for at, thing in enumerate(things):
                self.assertIs(judge.is_paper_against(claim, thing), word == "paper" and at == 0, (claim, thing))
                self.assertIs(judge.is_reason_for(claim, thing), word == "reason" and at == 0, (claim, thing))

    def test_no_reason_for_what_does_not_stand(self):
        # the STARS are told, but the LOT is not FULL, and what comes is another LINE
        self.assertIs(judge.is_reason_for(("full", SIX, TWO[:1]), stars.stars_in(SIX, TWO[:1])), False)
        self.assertIs(judge.is_reason_for(("full", (7, 2), ((0, 3), (0, 4), (2, 5))), ((0, 2, 3, 4, 5),)), False)
        low = ((0, 3), (0, 4), (1, 4), (1, 5))
        both = stars.stars_of_line((7, 2), low, (0, 3))
        self.assertIs(judge.is_reason_for(("exchange", (7, 2), low, (0, 3), (2, 6)), both), False)
        self.assertIs(judge.is_reason_for(("exchange", (7, 2), low, (0, 3), (2, 5)), both), True)

    def test_things_whatever_they_are(self):
        for claim in STANDING + FALLEN:
            for thing in (None, True, False, 0, -1, 10 ** 50, "", "lot", (), [], (0,), [0, 3], (0, 3), ((0, 3),), (None, None), nested(20, ()), [nested(19, 0)], ((0, 3), None), (STAR,), STAR, (True, 3)):
                for function in (judge.is_paper_against, judge.is_reason_for):
                    self.assertIsInstance(function(claim, thing), bool)


class GreatRings(Raising):
    def test_all_functions(self):
        for ring in GREAT:
            n, k = ring
            for lot in great_full_lots(ring)[1:]:
                claims = [("lot", ring, lot), ("lot", ring, lot[1:]), ("full", ring, lot), ("star", ring, lot, stars.stars_in(ring, lot)[0])]
                fallen = []
                if lot:
                    line = lot[len(lot) // 2]
                    come = exchange.newcomer(ring, lot, line)
                    claims += [("exchange", ring, lot, line, come), ("out", ring, lot, come)]
                    wrong = [own for own in meeting.lines_out(ring, lot) if own != come]
                    fallen += [("lot", ring, tuple(sorted((*lot, come)))), ("full", ring, lot[1:]), ("out", ring, lot[1:], lot[0])]
                    fallen += [("star", ring, lot, tuple(range(2 * k + 1)))] if not stars.is_star_in(ring, lot, tuple(range(2 * k + 1))) else []
                    fallen += [("exchange", ring, lot, line, wrong[0])] if wrong else []
                for claim in claims:
                    self.assertIs(judge.is_so(claim), True)
                    self.assertIs(judge.is_reason_for(claim, judge.reason_for(claim)), True)
                for claim in fallen:
                    self.assertIs(judge.is_so(claim), False)
                    self.assertIs(judge.is_paper_against(claim, judge.paper_against(claim)), True)
                self.assertEqual(len(claims) if fallen else None, judge.first_fallen(claims + fallen))


if __name__ == "__main__":
    unittest.main()
