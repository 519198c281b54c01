"""The interface and point 2: each name is defined in its file, its arguments have their names."""

import copy
import inspect
import unittest

from enoughheard import (avoiding, checker, claims, crowds, ending, halls, least, mends, numbers, orders,
                         protocols, replays, runs, situations, solving, systems, texts)
from tests.helpers import BROADCAST, HIGH, LOW, THIRD, is_plain

CROWD = ((2, 0, 1, 0), (1,))
FIRST = ((2, 1, 0, 0), (0,))
RUN = ((0, 1), (1, 2))
GONE = (((0, 0, 0, 1), (0,), (0, 0, 0), 1),)
NEVER = (((1, -1), 2), ((-1, 0), 0), ((0, 1), 0))
QUESTION = (("protocol", BROADCAST), ("resilience", THIRD), ("empty", (1,)), ("situation", GONE))
BY_NUMBERS = (("protocol", BROADCAST), ("numbers", (4, 1, 1)))
ON_RUN = BY_NUMBERS + (("crowd", FIRST), ("run", RUN))
IN_ORDER = (("protocol", BROADCAST), ("order", (LOW,)))
OPTIONS = (("bound", LOW, (0, 1, 0), 1), ("drop", 1, 2))
ON_OPTIONS = (("protocol", BROADCAST), ("options", OPTIONS))
WISHES = (("avoids", (1,), GONE), ("ends", (), GONE))
CLAIM = ("avoids", BROADCAST, THIRD, (1,), GONE)
TEXT = "locations 2\nkinds 1\nstarts 0\nrule 0 1 hears 0 0 1 1 says 0\n"

# Each function with its arguments, in their order, and values that may be passed.
FUNCTIONS = (
    (numbers, "bound_value", (("bound", (0, 1, 1)), ("numbers", (7, 2, 2)))),
    (numbers, "require_resilience", (("value", THIRD),)),
    (numbers, "fits", (("resilience", THIRD), ("numbers", (7, 2, 2)))),
    (numbers, "with_factor", (("resilience", THIRD), ("m", 3))),
    (protocols, "require_protocol", (("value", BROADCAST),)),
    (protocols, "conditions_of", (("protocol", BROADCAST),)),
    (crowds, "first_crowd", (("protocol", BROADCAST), ("firsts", (2, 1, 0, 0)))),
    (crowds, "is_first", BY_NUMBERS + (("empty", (1,)), ("firsts", (3, 0, 0, 0)))),
    (crowds, "can_hear", (("numbers", (4, 1, 1)), ("crowd", CROWD), ("condition", LOW))),
    (crowds, "hears", (("numbers", (4, 1, 1)), ("crowd", CROWD), ("condition", LOW))),
    (crowds, "can_take", BY_NUMBERS + (("crowd", CROWD),)),
    (crowds, "urged", BY_NUMBERS + (("crowd", CROWD),)),
    (crowds, "is_end", BY_NUMBERS + (("crowd", CROWD),)),
    (runs, "behind_run", ON_RUN),
    (runs, "run_order", ON_RUN),
    (orders, "usable", IN_ORDER),
    (orders, "columns", IN_ORDER),
    (orders, "follows", ON_RUN + (("order", (LOW,)),)),
    (orders, "parts_of", ON_RUN + (("order", (LOW,)),)),
    (systems, "system", QUESTION[:3] + (("order", (LOW,)),)),
    (systems, "next_row", IN_ORDER + (("condition", HIGH),)),
    (systems, "situation_rows", IN_ORDER + (("situation", GONE),)),
    (systems, "silent_rows", IN_ORDER + (("silent", (HIGH,)),)),
    (systems, "values_of", BY_NUMBERS + (("firsts", (2, 1, 0, 0)), ("run", RUN),
                                         ("order", (LOW,)))),
    (systems, "run_of", IN_ORDER + (("values", (4, 1, 1, 2, 1, 1, 0, 2)),)),
    (situations, "require_situation", (("protocol", BROADCAST), ("value", GONE))),
    (situations, "occupied", (("protocol", BROADCAST), ("locations", (0, 3)))),
    (situations, "holds", (("situation", GONE), ("numbers", (4, 1, 1)), ("crowd", CROWD))),
    (solving, "satisfies", (("rows", NEVER), ("value", (3, 1)))),
    (solving, "are_weights", (("rows", NEVER), ("value", (1, 1, 0)))),
    (solving, "solved", (("rows", NEVER),)),
    (mends, "require_options", (("protocol", BROADCAST), ("value", OPTIONS))),
    (mends, "with_choice", ON_OPTIONS + (("choice", (0, 1)),)),
    (claims, "require_claim", (("claim", CLAIM),)),
    (checker, "first_fault", (("certificate", ("shown", CLAIM, ())),)),
    (texts, "format_protocol", (("protocol", BROADCAST),)),
    (texts, "parse_protocol", (("text", TEXT),)),
)
WITH_TRIES = (
    (avoiding, "avoids", QUESTION),
    (avoiding, "coming_to", QUESTION),
    (avoiding, "avoiding_tree", QUESTION),
    (ending, "ends_outside", QUESTION),
    (ending, "ending_in", QUESTION),
    (ending, "ending_tree", QUESTION),
    (least, "least_factor", (("word", "avoids"), ("protocol", BROADCAST), ("resilience", THIRD),
                             ("empty", (1,)), ("situation", GONE))),
    (mends, "cheapest_mend", (("protocol", BROADCAST), ("resilience", THIRD), ("wishes", WISHES),
                              ("options", OPTIONS))),
    (claims, "decide", (("claim", CLAIM),)),
)
# These return no plain tuples: a generator and a hall.
OTHERS = (
    (mends, "choices", (("options", OPTIONS),)),
    (replays, "replayed", BY_NUMBERS + (("firsts", (2, 1, 0, 0)), ("run", RUN))),
)
# The methods of Hall with what each takes.
METHODS = (
    ("__init__", ("protocol", "numbers", "starts")), ("act", ("member", "rule")),
    ("deliver", ("sender", "receiver", "kind")), ("lie", ("liar", "receiver", "kind")), ("spread", ()),
    ("location", ("member",)), ("heard", ("member", "kind")), ("can_act", ("member",)), ("crowd", ()),
    ("firsts", ()), ("run", ()), ("is_end", ()), ("deeds", ()), ("twin", ()), ("undo", ()), ("__len__", ()),
    ("__eq__", ("other",)), ("__iadd__", ("other",)),
)


class Interface(unittest.TestCase):
    def test_functions_are_defined_in_their_files(self):
        for module, name, _ in FUNCTIONS + WITH_TRIES + OTHERS:
            with self.subTest(name):
                self.assertEqual(getattr(module, name).__module__, module.__name__)

    def test_arguments_have_their_names_and_no_defaults(self):
        for module, name, arguments in FUNCTIONS + WITH_TRIES + OTHERS:
            with self.subTest(name):
                found = dict(inspect.signature(getattr(module, name)).parameters)
                if (module, name, arguments) in WITH_TRIES:
                    tries = found.pop("tries")
                    self.assertEqual(tries.kind, tries.KEYWORD_ONLY)
                    self.assertEqual(tries.default, 1200)
                self.assertEqual(list(found), [argument for argument, _ in arguments])
                for parameter in found.values():
                    self.assertEqual(parameter.kind, parameter.POSITIONAL_OR_KEYWORD)
                    self.assertEqual(parameter.default, parameter.empty)

    def test_by_position_and_by_names_in_any_order(self):
        for module, name, arguments in FUNCTIONS + WITH_TRIES:
            with self.subTest(name):
                function = getattr(module, name)
                right = function(*(value for _, value in arguments))
                self.assertTrue(is_plain(right))
                self.assertEqual(function(**dict(arguments)), right)
                self.assertEqual(function(**dict(reversed(arguments))), right)

    def test_tries_by_name(self):
        for module, name, arguments in WITH_TRIES:
            with self.subTest(name):
                function = getattr(module, name)
                right = function(*(value for _, value in arguments))
                self.assertEqual(function(tries=20, **dict(reversed(arguments))), right)
                self.assertRaises(OverflowError, function, tries=1, **dict(arguments))
                self.assertRaises(TypeError, function, *(value for _, value in arguments), 20)

    def test_the_others_by_names(self):
        self.assertEqual(list(mends.choices(options=OPTIONS)), list(mends.choices(OPTIONS)))
        arguments = dict(OTHERS[1][2])
        self.assertEqual(replays.replayed(**dict(reversed(arguments.items()))),
                         replays.replayed(*arguments.values()))

    def test_the_methods_stand_in_the_class_itself(self):
        self.assertEqual(halls.Hall.__module__, halls.__name__)
        self.assertTrue(inspect.isclass(halls.Hall))
        for name, arguments in METHODS:
            with self.subTest(name):
                self.assertIn(name, vars(halls.Hall))
                first, *found = inspect.signature(vars(halls.Hall)[name]).parameters.values()
                self.assertEqual(tuple(parameter.name for parameter in found), arguments)
                for parameter in found:
                    self.assertEqual(parameter.kind, parameter.POSITIONAL_OR_KEYWORD)
                    self.assertEqual(parameter.default, parameter.empty)

    def test_the_objects_that_are_asked_do_not_count(self):
        # What is returned depends on the arguments alone, not on what was asked before.
        for module, name, arguments in FUNCTIONS + WITH_TRIES:
            function = getattr(module, name)
            right = function(**dict(arguments))
            for other, others_name, more in WITH_TRIES:
                getattr(other, others_name)(**dict(more))
            self.assertEqual(function(**dict(arguments)), right)

    def test_nothing_that_is_passed_is_modified(self):
        for module, name, arguments in FUNCTIONS + WITH_TRIES + OTHERS:
            with self.subTest(name):
                before = copy.deepcopy(arguments)
                getattr(module, name)(**dict(arguments))
                self.assertEqual(arguments, before)

    def test_values_of_any_kind_are_not_modified(self):
        for function, more in ((situations.require_situation, {"protocol": BROADCAST}),
                               (solving.satisfies, {"rows": NEVER}),
                               (solving.are_weights, {"rows": NEVER}),
                               (mends.require_options, {"protocol": BROADCAST})):
            for value in ([[1], {"a": [2]}], {"a": [1, {}]}, ([1, [2]], [3, 4], [5]), [3, 1]):
                before = copy.deepcopy(value)
                try:
                    function(value=value, **more)
                except ValueError:
                    pass
                self.assertEqual(value, before)

    def test_certificates_of_any_kind_are_not_modified(self):
        for value in ([[1], {"a": [2]}], {"a": [1, {}]}, ([1, [2]], [3, 4], [5]), ("shown", CLAIM, [[]]),
                      ("shown", list(CLAIM), {"a": []}), ("broken", CLAIM, ([4, 1, 1], [[]], {}))):
            before = copy.deepcopy(value)
            self.assertIsNotNone(checker.first_fault(value))
            self.assertEqual(value, before)


if __name__ == "__main__":
    unittest.main()
