"""What holds of all functions: the kinds of arguments, lists for tuples, new lists, the order of checks."""

import unittest
from copy import deepcopy

from starsinaring.errors import Unfit
from tests.plain import deep_list, depth_of, lists_at
from tests.samples import LATE, RING, SAMPLES
from tests.wrong import nested, wrong_values

THINGS = (
    None, True, False, 0, 1, -5, 10 ** 100, "", "crowd", "line", (), [], (0,), (0, 3, 5), [0, 3], ((0, 3),), [(0, 3)],
    ((0, 3), [1, 4]), (False, 3), (0, True), (True, True), ((False, 3),), ((0, True),), ("0", "3"), (0, "3"), (0, None),
    nested(20, ()), nested(20, 5), nested(19, (0, 3)), [nested(18, (0, 3))], (nested(18, 1), nested(18, 2)),
    ((0, 3), nested(18, 1)), (nested(18, 1), (0, 3)), (0, nested(18, 1)), (nested(19, 1), 2), (-1, 3), (3, 0), (3, 3),
    (0, 10 ** 100), (-10 ** 100, 10 ** 100), ((0, 10 ** 100),), ((1, 4), (0, 3)), ((0, 3), (0, 3)), ("crowd",),
    ("crowd", ((0, 3),)), ["crowd", ()], ("line", [0, 3]), ("line", (0, 3), ()), (("line", (0, 3)),), (None, (0, 3)),
    (True, (0, 3)), (0, 3) * 1000, ((0, 3),) * 1000, tuple((0, b) for b in range(1, 2000)), list(range(2000)),
)


def passed(values, name, value):
    """values with another one at name."""
    return {own: value if own == name else values[own] for own in values}


class Arguments(unittest.TestCase):
    def each(self):
        for function, told in SAMPLES:
            with self.subTest(function=function.__name__):
                yield function, told, {name: value for name, _, value in told}

    def test_by_name_in_any_order_and_by_position(self):
        for function, told, values in self.each():
            answer = function(*[value for _, _, value in told])
            self.assertEqual(answer, function(**values))
            self.assertEqual(answer, function(**{name: values[name] for name in reversed(list(values))}))

    def test_lists_for_tuples_at_each_depth(self):
        for function, told, values in self.each():
            answer = repr(function(**values))
            for name, kind, value in told:
                if kind == "thing":
                    continue
                changed = [deep_list(value)] + [lists_at(value, depth) for depth in range(depth_of(value))]
                for own in changed:
                    self.assertEqual(answer, repr(function(**passed(values, name, own))), own)
            lists = {name: value if kind == "thing" else deep_list(value) for name, kind, value in told}
            self.assertEqual(answer, repr(function(**lists)))

    def test_arguments_stay_as_they_were(self):
        for function, told, values in self.each():
            lists = {name: value if kind == "thing" else deep_list(value) for name, kind, value in told}
            kept = deepcopy(lists)
            function(**lists)
            self.assertEqual(repr(kept), repr(lists))

    def test_lists_that_are_returned_are_new(self):
        for function, _, values in self.each():
            answer = function(**values)
            if isinstance(answer, list):
                kept = list(answer)
                answer.append("more")
                answer[0] = None
                self.assertEqual(kept, function(**values))

    def test_the_same_call_has_the_same_answer(self):
        for function, _, values in self.each():
            self.assertEqual(repr(function(**values)), repr(function(**values)))

    def test_wrong_values_are_unfit(self):
        for function, told, values in self.each():
            for name, kind, _ in told:
                for own in wrong_values(kind, RING):
                    with self.assertRaises(Unfit, msg=(name, own)):
                        function(**passed(values, name, own))

    def test_wrong_values_are_unfit_whatever_the_thing(self):
        for function, told, values in self.each():
            if not any(kind == "thing" for _, kind, _ in told):
                continue
            for name, kind, _ in told:
                for own in wrong_values(kind, RING):
                    for thing in (None, True, [], (0, 3), nested(20, ())):
                        with self.assertRaises(Unfit, msg=(name, own)):
                            function(**{**passed(values, name, own), "thing": thing})

    def test_later_errors(self):
        for function, told, values in self.each():
            for name, _, _ in told:
                for own, error, attributes in LATE.get((function, name), ()):
                    with self.assertRaises(error, msg=(name, own)) as caught:
                        function(**passed(values, name, own))
                    self.assertEqual(repr(attributes), repr(vars(caught.exception)))
                    with self.assertRaises(error, msg=(name, own)) as caught:
                        function(**passed(values, name, deep_list(own)))
                    self.assertEqual(repr(attributes), repr(vars(caught.exception)))

    def test_unfit_is_ahead_of_later_errors(self):
        for function, told, values in self.each():
            for name, _, _ in told:
                for own, _, _ in LATE.get((function, name), ()):
                    late = passed(values, name, own)
                    for other, kind, _ in told:
                        if other != name:
                            for bad in wrong_values(kind, RING):
                                with self.assertRaises(Unfit, msg=(name, own, other, bad)):
                                    function(**passed(late, other, bad))

    def test_things_are_answered_by_a_truth_value(self):
        for function, told, values in self.each():
            if any(kind == "thing" for _, kind, _ in told):
                self.assertIs(function(**values), True)
                self.assertIs(function(**{**values, "thing": deep_list(values["thing"])}), False)
                for depth in range(depth_of(values["thing"])):
                    self.assertIs(function(**{**values, "thing": lists_at(values["thing"], depth)}), False)
                for thing in THINGS:
                    self.assertIn(function(**{**values, "thing": thing}), (True, False))
                    self.assertIsInstance(function(**{**values, "thing": thing}), bool)


if __name__ == "__main__":
    unittest.main()
