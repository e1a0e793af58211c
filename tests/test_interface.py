"""The names, arguments and kinds of the interface."""

import inspect
import unittest
from importlib import import_module

from tests.samples import SAMPLES

ERRORS = {
    "NoPoint": (LookupError, "point"), "NoLine": (LookupError, "line"), "NoStar": (LookupError, "star"),
    "NothingDone": (LookupError, None), "BadText": (ValueError, "line"), "Broken": (ValueError, "number"),
    "CanNot": (ValueError, None), "TooMany": (ValueError, None), "Unfit": (ValueError, None),
}
FUNCTIONS = {
    "signs": "words(text) text_of(words) number_of(word) word_of(number)",
    "lines": "is_ring(thing) is_line(ring,thing) length_of(ring,line) kind_of(ring,line) long_lines(ring) rim_lines(ring)"
             " how_many_long(ring) long_at(ring,point) line_number(ring,line) line_at(ring,number)"
             " steps_up(ring,point,far) strictly_between(ring,point,far) sides_of(ring,line) do_cross(ring,line,other)"
             " crossers(ring,line)",
    "crowds": "is_crowd(ring,thing) crowd_of(ring,points) points_of(ring,crowd) how_many_crowds(ring,number)"
              " crowds_in(ring,lines,number) how_great(ring,lines) greatest_crowd(ring,lines) crowd_with(ring,lines,line)"
              " is_greatest_crowd(ring,lines,thing) how_often(ring,lines)",
    "runs": "how_many_lanes(ring) how_many_runs(ring) how_many_ties(ring) run_of(ring,run) runs_of(ring) run_end(ring,run)"
            " tie_of(ring,line) is_tie(ring,thing) line_tied(ring,run,lane) ties_above(ring,lane) upper_next(ring,line)"
            " lower_next(ring,line) ties_met(ring,line,other)",
    "particles": "low_lanes(ring,drawing,low) lanes_of_low(ring,drawing,low,index) held_by(ring,drawing,low,index,run)"
                 " comes(ring,drawing,low,index) how_many_below(ring,drawing,low) falls_short(ring,drawing)"
                 " all_come(ring,drawing) read_back(ring,drawing,low,index) noted(ring,drawing)"
                 " is_noted(ring,drawing,thing) least_width(ring,lines)",
    "lots": "is_lot(ring,thing) sifted(ring,drawing) crossed_by(ring,lot,line) can_come(ring,lot) barred(ring,lot)"
            " put_to(ring,lot,line) struck(ring,lot,line) bar_of(ring,lot,line) is_bar(ring,lot,line,thing)"
            " keys_to(ring,lot,line) are_one_lot(ring,lot,other)",
    "filling": "is_full(ring,thing) full_size(ring) lines_short(ring,lot) put_in_turn(ring,lot,lines) filled(ring,lot)"
               " filled_by(ring,lot,lines) why_not_full(ring,drawing) is_why_not_full(ring,drawing,thing)"
               " fan_at(ring,point) fans_like(ring,lot)",
    "corners": "neighbours(ring,lot,point) corners_at(ring,lot,point) all_corners(ring,lot) is_corner(ring,lot,thing)"
               " looks_at(ring,lot,corner) corner_looking(ring,lot,point,far) corners_of(ring,lot,line)"
               " next_corner(ring,lot,corner) corner_ahead(ring,lot,corner) corner_walk(ring,lot,corner)"
               " walk_rounds(ring,lot,corner) corner_walks(ring,lot) is_star_walk(ring,lot,corner)",
    "stars": "is_star(ring,thing) lines_of_star(ring,star) common_lines(ring,star,other) stars_in(ring,lot)"
             " is_star_in(ring,lot,thing) how_many_stars(ring,lot) stars_at(ring,lot,point) stars_of_line(ring,lot,line)"
             " rim_star(ring,lot,point) star_of_corner(ring,lot,corner) stars_beside(ring,lot,star)"
             " lacking_lines(ring,lot,star) lot_with_stars(ring,group) lot_of_stars(ring,group) star_left(ring,group)",
    "meeting": "lines_out(ring,lot) lot_without(ring,lines) met_line(ring,lot,star,other) met_stars(ring,lot,line)"
               " couples(ring,lot) couples_of(ring,lot,star) corner_of(ring,star,point) seen_from(ring,star,point)"
               " do_meet(ring,star,other,line) all_meeting(ring,star,other) get_along(ring,star,other)",
    "wires": "wire_way(ring,lot,wire) star_of(ring,lot,wire) wire_of(ring,lot,star) cross_line(ring,lot,wire,far)"
             " wires_at(ring,lot,line) order_behind(ring,lot,run) crosses_told(ring,lot) lot_of_crosses(ring,table)"
             " passes(ring,drawing) all_once(ring,drawing) end_order(ring,drawing)",
    "exchange": "newcomer(ring,lot,line) exchanged(ring,lot,line) exchanges(ring,lot) how_many_exchanges(ring)"
                " is_exchange(ring,lot,thing) gone_for(ring,lot,line) beside(ring,lot) gone_and_come(ring,lot,other)"
                " exchange_row(ring,lot,other) is_exchange_row(ring,lot,other,thing) led_by(ring,lot,row)",
    "order": "least_full(ring) greatest_full(ring) falling(ring,lot) rising(ring,lot) does_fall(ring,lot,line)"
             " father(ring,lot) sons(ring,lot) fathers_row(ring,lot) how_deep(ring,lot) way_down(ring,lot)"
             " tree_under(ring,lot)",
    "fields": "near_points(ring,field) far_points(ring,field) fields_of(ring,line) longest_row(ring,drawing,field)"
              " a_longest(ring,drawing,field) row_table(ring,drawing,field) is_row(ring,drawing,field,thing)"
              " is_longest(ring,drawing,field,thing) near_growth(ring,drawing,field) far_growth(ring,drawing,field)"
              " wide_fields(ring,drawing) more_than_k(ring,drawing)",
    "weights": "wire_weights(ring,lot) weight_sum(ring) weight_moved(ring,lot,line) most_weight(ring,chosen)"
               " least_weight(ring,chosen) best_lanes(ring,chosen) worth(ring,lot,prices) best_worth(ring,prices)"
               " is_best(ring,lot,prices) best_full(ring,prices) raising(ring,lot,prices)",
    "counts": "bracket_rows(number) how_many_full(ring) is_sheaf(ring,thing) sheaves(ring) how_many_with(ring,inside,outside)"
              " full_at(ring,number) full_number(ring,lot) next_full(ring,lot) by_point(ring,point)",
    "gaps": "least_with(ring,lot) greatest_with(ring,lot) all_with(ring,lot) sizes_with(ring,lot) joined_with(ring,lot,full,other)"
            " is_joined_with(ring,lot,full,other,thing) can_be(ring,inside,outside) some_with(ring,inside,outside)"
            " always_lines(ring,inside,outside) never_lines(ring,inside,outside) is_block(ring,drawing) least_block(ring,drawing)",
    "flat": "flattened(ring,lot,point) flat_line(ring,lot,point,line) blown_up(ring,lot,ends) ends_from(ring,lot,point)"
            " how_many_ends(ring,lot,point) are_ends(ring,lot,point,thing) ends_row(ring,lot) lot_of_ends(ring,row)",
    "rounds": "round_of(ring,lot) round_size(ring,lot) rounds_at(ring,full) shared_stars(ring,full,line,other)"
              " fewest(ring,full,other) shortest_row(ring,full,other) by_steps(ring,full) far_apart(ring)",
    "moved": "turned(ring,lines,number) mirrored(ring,lines) points_turned(ring,points,number) points_mirrored(ring,points)"
             " turns_to(ring,lines,other) mirrors_to(ring,lines,other) are_alike(ring,lines,other) like_itself(ring,lines)"
             " least_alike(ring,lines) kinds(ring) how_many_kinds(ring)",
    "texts": "is_sheet(thing) sheet_text(sheet) read_sheet(text) lot_text(ring,lot) read_lot(ring,text) picture(ring,lot) read_picture(text)",
    "judge": "is_claim(thing) is_so(claim) paper_against(claim) is_paper_against(claim,thing) reason_for(claim)"
             " is_reason_for(claim,thing) first_fallen(claims)",
}
DESK = {"__init__": ["self", "ring"], "say": ["self", "text"], "ring": ["self"], "lot": ["self"], "undo": ["self"], "redo": ["self"], "twin": ["self"]}


class Interface(unittest.TestCase):
    def test_functions(self):
        for file, told in FUNCTIONS.items():
            module = import_module(f"starsinaring.{file}")
            for entry in told.split():
                name, _, arguments = entry[:-1].partition("(")
                with self.subTest(file=file, function=name):
                    function = getattr(module, name)
                    self.assertTrue(inspect.isfunction(function))
                    self.assertEqual(f"starsinaring.{file}", function.__module__)
                    self.assertEqual(name, function.__name__)
                    signature = inspect.signature(function)
                    self.assertEqual(arguments.split(","), list(signature.parameters))
                    for parameter in signature.parameters.values():
                        self.assertEqual(parameter.POSITIONAL_OR_KEYWORD, parameter.kind)
                        self.assertIs(parameter.empty, parameter.default)

    def test_each_function_has_a_sample(self):
        told = {(f"starsinaring.{file}", entry.partition("(")[0]) for file, row in FUNCTIONS.items() for entry in row.split()}
        self.assertEqual(told, {(function.__module__, function.__name__) for function, _ in SAMPLES})

    def test_desk(self):
        desk = import_module("starsinaring.desk").Desk
        self.assertEqual(("starsinaring.desk", (object,)), (desk.__module__, desk.__bases__))
        for name, arguments in DESK.items():
            with self.subTest(method=name):
                method = vars(desk)[name]
                self.assertTrue(inspect.isfunction(method))
                self.assertEqual("starsinaring.desk", method.__module__)
                signature = inspect.signature(method)
                self.assertEqual(arguments, list(signature.parameters))
                for parameter in signature.parameters.values():
                    self.assertEqual(parameter.POSITIONAL_OR_KEYWORD, parameter.kind)
                    self.assertIs(parameter.empty, parameter.default)
        self.assertIn("__eq__", vars(desk))

    def test_errors(self):
        module = import_module("starsinaring.errors")
        for name, (base, attribute) in ERRORS.items():
            with self.subTest(error=name):
                error = getattr(module, name)
                self.assertEqual("starsinaring.errors", error.__module__)
                self.assertEqual((base,), error.__bases__)
                if attribute is None:
                    self.assertEqual({}, vars(error()))
                else:
                    value = (1, 4)
                    self.assertIs(value, getattr(error(value), attribute))
                    self.assertIs(value, getattr(error(**{attribute: value}), attribute))
                    self.assertEqual({attribute: value}, vars(error(value)))


if __name__ == "__main__":
    unittest.main()
