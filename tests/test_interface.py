"""The interface and point 2: each name is defined in its file, its arguments have their names."""

import copy
import inspect
import unittest

from enoughheard import (avoiding, crowds, numbers, orders, protocols, runs, situations, solving,
                         systems)
from tests.helpers import BROADCAST, HIGH, LOW, THIRD, is_plain

CROWD = ((2, 0, 1, 0), (1,))
FIRST = ((2, 1, 0, 0), (0,))
RUN = ((0, 1), (1, 2))
GONE = (((0, 0, 0, 1), (0,), (0, 0, 0), 1),)
NEVER = (((1, -1), 2), ((-1, 0), 0), ((0, 1), 0))
QUESTION = (("protocol", BROADCAST), ("resilience", THIRD), ("empty", (1,)), ("situation", GONE))
BY_NUMBERS = (("protocol", BROADCAST), ("numbers", (4, 1, 1)))
ON_RUN = BY_NUMBERS + (("crowd", FIRST), ("run", RUN))
IN_ORDER = (("protocol", BROADCAST), ("order", (LOW,)))

# Each function with its arguments, in their order, and values that may be passed.
FUNCTIONS = (
    (numbers, "bound_value", (("bound", (0, 1, 1)), ("numbers", (7, 2, 2)))),
    (numbers, "require_resilience", (("value", THIRD),)),
    (numbers, "fits", (("resilience", THIRD), ("numbers", (7, 2, 2)))),
    (numbers, "with_factor", (("resilience", THIRD), ("m", 3))),
    (protocols, "require_protocol", (("value", BROADCAST),)),
    (protocols, "conditions_of", (("protocol", BROADCAST),)),
    (crowds, "first_crowd", (("protocol", BROADCAST), ("firsts", (2, 1, 0, 0)))),
    (crowds, "is_first", BY_NUMBERS + (("empty", (1,)), ("firsts", (3, 0, 0, 0)))),
    (crowds, "can_hear", (("numbers", (4, 1, 1)), ("crowd", CROWD), ("condition", LOW))),
    (crowds, "hears", (("numbers", (4, 1, 1)), ("crowd", CROWD), ("condition", LOW))),
    (crowds, "can_take", BY_NUMBERS + (("crowd", CROWD),)),
    (crowds, "urged", BY_NUMBERS + (("crowd", CROWD),)),
    (crowds, "is_end", BY_NUMBERS + (("crowd", CROWD),)),
    (runs, "behind_run", ON_RUN),
    (runs, "run_order", ON_RUN),
    (orders, "usable", IN_ORDER),
    (orders, "columns", IN_ORDER),
    (orders, "follows", ON_RUN + (("order", (LOW,)),)),
    (orders, "parts_of", ON_RUN + (("order", (LOW,)),)),
    (systems, "system", QUESTION[:3] + (("order", (LOW,)),)),
    (systems, "next_row", IN_ORDER + (("condition", HIGH),)),
    (systems, "situation_rows", IN_ORDER + (("situation", GONE),)),
    (systems, "silent_rows", IN_ORDER + (("silent", (HIGH,)),)),
    (systems, "values_of", BY_NUMBERS + (("firsts", (2, 1, 0, 0)), ("run", RUN),
                                         ("order", (LOW,)))),
    (systems, "run_of", IN_ORDER + (("values", (4, 1, 1, 2, 1, 1, 0, 2)),)),
    (situations, "require_situation", (("protocol", BROADCAST), ("value", GONE))),
    (situations, "occupied", (("protocol", BROADCAST), ("locations", (0, 3)))),
    (situations, "holds", (("situation", GONE), ("numbers", (4, 1, 1)), ("crowd", CROWD))),
    (solving, "satisfies", (("rows", NEVER), ("value", (3, 1)))),
    (solving, "are_weights", (("rows", NEVER), ("value", (1, 1, 0)))),
    (solving, "solved", (("rows", NEVER),)),
)
WITH_TRIES = (
    (avoiding, "avoids", QUESTION),
    (avoiding, "coming_to", QUESTION),
    (avoiding, "avoiding_tree", QUESTION),
)


class Interface(unittest.TestCase):
    def test_functions_are_defined_in_their_files(self):
        for module, name, _ in FUNCTIONS + WITH_TRIES:
            with self.subTest(name):
                self.assertEqual(getattr(module, name).__module__, module.__name__)

    def test_arguments_have_their_names_and_no_defaults(self):
        for module, name, arguments in FUNCTIONS + WITH_TRIES:
            with self.subTest(name):
                found = dict(inspect.signature(getattr(module, name)).parameters)
                if (module, name, arguments) in WITH_TRIES:
                    tries = found.pop("tries")
                    self.assertEqual(tries.kind, tries.KEYWORD_ONLY)
                    self.assertEqual(tries.default, 1200)
                self.assertEqual(list(found), [argument for argument, _ in arguments])
                for parameter in found.values():
                    self.assertEqual(parameter.kind, parameter.POSITIONAL_OR_KEYWORD)
                    self.assertEqual(parameter.default, parameter.empty)

    def test_by_position_and_by_names_in_any_order(self):
        for module, name, arguments in FUNCTIONS + WITH_TRIES:
            with self.subTest(name):
                function = getattr(module, name)
                right = function(*(value for _, value in arguments))
                self.assertTrue(is_plain(right))
                self.assertEqual(function(**dict(arguments)), right)
                self.assertEqual(function(**dict(reversed(arguments))), right)

    def test_tries_by_name(self):
        for module, name, arguments in WITH_TRIES:
            with self.subTest(name):
                function = getattr(module, name)
                right = function(*(value for _, value in arguments))
                self.assertEqual(function(tries=3, **dict(reversed(arguments))), right)

    def test_nothing_that_is_passed_is_modified(self):
        for module, name, arguments in FUNCTIONS + WITH_TRIES:
            with self.subTest(name):
                before = copy.deepcopy(arguments)
                getattr(module, name)(**dict(arguments))
                self.assertEqual(arguments, before)

    def test_values_of_any_kind_are_not_modified(self):
        for function, more in ((situations.require_situation, {"protocol": BROADCAST}),
                               (solving.satisfies, {"rows": NEVER}),
                               (solving.are_weights, {"rows": NEVER})):
            for value in ([[1], {"a": [2]}], {"a": [1, {}]}, ([1, [2]], [3, 4], [5]), [3, 1]):
                before = copy.deepcopy(value)
                try:
                    function(value=value, **more)
                except ValueError:
                    pass
                self.assertEqual(value, before)


if __name__ == "__main__":
    unittest.main()
