"""What holds of all functions: the kinds of arguments, lists for tuples, new lists, the order of checks."""

import unittest
from copy import deepcopy

from starsinaring.errors import Unfit
from tests.plain import deep_list, depth_of, lists_at
from tests.samples import LATE, RING, SAMPLES
from tests.wrong import nested, wrong_values

THINGS = (
    None, True, False, 0, 1, -5, 10 ** 100, "", "crowd", "line", (), [], (0,), (0, 3, 5), [0, 3], ((0, 3),), [(0, 3)],
    ((0, 3), [1, 4]), (False, 3), (0, True), (True, True), ((False, 3),), ((0, True),), ("0", "3"), (0, "3"), (0, None),
    nested(20, ()), nested(20, 5), nested(19, (0, 3)), [nested(18, (0, 3))], (nested(18, 1), nested(18, 2)),
    ((0, 3), nested(18, 1)), (nested(18, 1), (0, 3)), (0, nested(18, 1)), (nested(19, 1), 2), (-1, 3), (3, 0), (3, 3),
    (0, 10 ** 100), (-10 ** 100, 10 ** 100), ((0, 10 ** 100),), ((1, 4), (0, 3)), ((0, 3), (0, 3)), ("crowd",),
    ("crowd", ((0, 3),)), ["crowd", ()], ("line", [0, 3]), ("line", (0, 3), ()), (("line", (0, 3)),), (None, (0, 3)),
    (True, (0, 3)), (0, 3) * 1000, ((0, 3),) * 1000, tuple((0, b) for b in range(1, 2000)), list(range(2000)),
)


def passed(values, name, value):
    """values with another one at name."""
    return {own: value if own == name else values[own] for own in values}


def in_lists(told):
    """The arguments, lists in the place of all tuples but those of a thing."""
    return {name: value if kind == "thing" else deep_list(value) for name, kind, value in told}


EACH = [(function, told, {name: value for name, _, value in told}) for function, told in SAMPLES]
WITH_THING = [own for own in EACH if "thing" in own[2]]


class Arguments(unittest.TestCase):
    def assert_raises(self, error, attributes, function, values):
        told = (function.__name__, values)
        with self.assertRaises(error, msg=told) as caught:
            function(**values)
        self.assertIs(error, type(caught.exception), told)
        self.assertEqual(repr(attributes), repr(vars(caught.exception)), told)

    def test_by_name_in_any_order_and_by_position(self):
        for function, told, values in EACH:
            answer = function(*[value for _, _, value in told])
            self.assertEqual(answer, function(**values))
            self.assertEqual(answer, function(**{name: values[name] for name in reversed(list(values))}))

    def test_lists_for_tuples_at_each_depth(self):
        for function, told, values in EACH:
            answer = repr(function(**values))
            for name, kind, value in told:
                if kind != "thing":
                    for own in [deep_list(value)] + [lists_at(value, depth) for depth in range(depth_of(value))]:
                        self.assertEqual(answer, repr(function(**passed(values, name, own))), (function, own))
            self.assertEqual(answer, repr(function(**in_lists(told))))

    def test_arguments_stay_as_they_were(self):
        for function, told, _ in EACH:
            lists = in_lists(told)
            kept = deepcopy(lists)
            function(**lists)
            self.assertEqual(repr(kept), repr(lists))

    def test_lists_that_are_returned_are_new(self):
        for function, _, values in EACH:
            answer = function(**values)
            if isinstance(answer, list):
                kept = list(answer)
                answer.append("more")
                answer[0] = None
                self.assertEqual(kept, function(**values))

    def test_the_same_call_has_the_same_answer(self):
        for function, told, values in EACH:
            answer = repr(function(**values))
            self.assertEqual(answer, repr(function(**values)))
            self.assertEqual(answer, repr(function(**in_lists(told))))

    def test_wrong_values_are_unfit(self):
        for function, told, values in EACH:
            for name, kind, _ in told:
                for own in wrong_values(kind, RING):
                    self.assert_raises(Unfit, {}, function, passed(values, name, own))

    def test_wrong_values_are_unfit_whatever_the_thing(self):
        for function, told, values in WITH_THING:
            for name, kind, _ in told:
                for own in wrong_values(kind, RING):
                    for thing in (None, True, [], (0, 3), nested(20, ())):
                        self.assert_raises(Unfit, {}, function, {**passed(values, name, own), "thing": thing})

    def test_later_errors(self):
        for function, told, values in EACH:
            for name, _, _ in told:
                for own, error, attributes in LATE.get((function, name), ()):
                    self.assert_raises(error, attributes, function, passed(values, name, own))
                    self.assert_raises(error, attributes, function, passed(values, name, deep_list(own)))
                    if "thing" in values:
                        late = {**passed(values, name, own), "thing": nested(20, None)}
                        self.assert_raises(error, attributes, function, late)

    def test_unfit_is_ahead_of_later_errors(self):
        for function, told, values in EACH:
            for name, _, _ in told:
                for own, _, _ in LATE.get((function, name), ()):
                    late = passed(values, name, own)
                    for other, kind, _ in told:
                        if other != name:
                            for bad in wrong_values(kind, RING):
                                self.assert_raises(Unfit, {}, function, passed(late, other, bad))

    def test_all_that_may_be_late_is_told(self):
        for function, name in LATE:
            self.assertIn(name, [values for own, _, values in EACH if own == function][0])

    def test_things_are_answered_by_a_truth_value(self):
        for function, _, values in WITH_THING:
            good = values["thing"]
            self.assertIs(function(**values), True, function)
            for thing in [deep_list(good)] + [lists_at(good, depth) for depth in range(depth_of(good))]:
                self.assertIs(function(**{**values, "thing": thing}), False, (function, thing))
            for thing in THINGS:
                self.assertIsInstance(function(**{**values, "thing": thing}), bool, (function, thing))


if __name__ == "__main__":
    unittest.main()
