"""Point 16, and the limits: wishes, options, choices and mends."""

import copy
import inspect
import itertools
import random
import unittest

from enoughheard.errors import InvalidOptions, LimitExceeded
from enoughheard.mends import cheapest_mend, choices, require_options, with_choice
from enoughheard.protocols import require_protocol
from enoughheard.situations import occupied
from tests import own
from tests.asking import NONE_FIT, drawn_questions, looks_at
from tests.helpers import BIG, BROADCAST, HIGH, LOW, NO_INTEGERS, NO_TUPLES, THIRD, put, replaced

LOWER = ("bound", LOW, (0, 1, 0), 1)
HIGHER = ("bound", HIGH, (1, 0, 0), 5)
NONE = ("drop", 1, 2)
# The broadcast, but who sends on waits for too few.
WEAK = (4, 1, (0, 1), ((1, 2, (), (0,)), (0, 2, ((0, (0, 1, 0)),), (0,)), (0, 3, (HIGH,), (0,)),
                       (2, 3, (HIGH,), ())))
UNFORGED = ("avoids", (1,), occupied(WEAK, (3,)))
TOGETHER = ("ends", (), occupied(WEAK, (0, 3)))


class Options(unittest.TestCase):
    def assert_index(self, value, index, protocol=BROADCAST):
        before = copy.deepcopy(value)
        with self.assertRaises(InvalidOptions) as caught:
            require_options(protocol, value)
        self.assertEqual(caught.exception.index, index)
        self.assertIs(type(caught.exception.index), type(index))
        self.assertEqual(value, before)

    def test_options_are_returned(self):
        for value in ((LOWER,), (NONE,), (LOWER, HIGHER, NONE), (LOWER, LOWER, LOWER),
                      (NONE, NONE), (("drop", 0, 0), ("drop", 3, 99)),
                      (("bound", LOW, (-3, 3, 0), 0), ("bound", LOW, LOW[1], 99))):
            self.assertIs(require_options(BROADCAST, value), value)

    def test_no_tuple_of_one_to_three(self):
        for value in NO_TUPLES + ((), (LOWER,) * 4, [LOWER], "abc", BIG):
            self.assert_index(value, None)

    def test_the_first_that_is_none(self):
        for wrong in (("bounds", LOW, (0, 1, 0), 1), ("drop", LOW, (0, 1, 0), 1), ("bound", 1, 2),
                      ("bound", LOW, (0, 1, 0)), ("bound", LOW, (0, 1, 0), 1, 1), ("drop", 1),
                      ("drop", 1, 2, 3), ("dropped", 1, 2), (), ("drop",), ("bound", LOW, (0, 1), 1),
                      ("bound", LOW, (0, 1, 0, 0), 1), ["drop", 1, 2], list(LOWER), None, 0, "drop"):
            for options, index in (((wrong,), 0), ((LOWER, wrong), 1), ((NONE, LOWER, wrong), 2),
                                   ((wrong, wrong), 0), ((LOWER, wrong, wrong), 1)):
                self.assert_index(options, index)

    def test_a_condition_that_no_rule_has(self):
        for condition in ((0, (0, 1, 0)), (1, (0, 1, 1)), (0, (1, -1, 1)), LOW[1], (0,), (0, LOW[1], 0),
                          (False, (0, 1, 1)), (0, (0, True, 1)), (0, (0, 1, True)), (0, (False, 1, 1)),
                          [0, (0, 1, 1)], (0, [0, 1, 1]), (0, (1, -1, False)), None, {}, (None, None)):
            self.assert_index((("bound", condition, (0, 1, 0), 1),), 0)
        no_conditions = (2, 1, (0,), ((0, 1, (), (0,)),))
        self.assert_index((("bound", LOW, (0, 1, 0), 1),), 0, no_conditions)

    def test_bounds_out_of_their_limits(self):
        for bound in ((4, 0, 0), (-4, 0, 0), (0, 4, 0), (0, -4, 0), (0, 0, 2), (0, 0, -1), (True, 0, 0),
                      (0, True, 0), (0, 0, True), (0, 0, False), [0, 0, 0], (0, 0), None, (BIG, 0, 0)):
            self.assert_index((NONE, ("bound", LOW, bound, 1)), 1)
        for bound in itertools.product((-3, 3), (-3, 3), (0, 1)):
            value = (("bound", LOW, bound, 1),)
            self.assertIs(require_options(BROADCAST, value), value)

    def test_indices_and_costs_out_of_their_limits(self):
        for index in NO_INTEGERS + (-1, 4, BIG, LOW):
            self.assert_index((LOWER, ("drop", index, 1)), 1)
        self.assert_index((("drop", 0, 1),), 0, (2, 1, (0,), ()))
        for cost in NO_INTEGERS + (-1, 100, BIG):
            self.assert_index((("drop", 0, cost),), 0)
            self.assert_index((LOWER, LOWER[:3] + (cost,)), 1)

    def test_values_of_any_kind_at_any_depth(self):
        for whole in ((LOWER,), (NONE,), (LOWER, HIGHER, NONE)):
            for value in replaced(whole):
                with self.assertRaises(InvalidOptions):
                    require_options(BROADCAST, value)
        for at, option in enumerate((LOWER, HIGHER, NONE)):
            for value in replaced(option):
                with self.assertRaises(InvalidOptions) as caught:
                    require_options(BROADCAST, put((LOWER, HIGHER, NONE), at, value))
                self.assertEqual(caught.exception.index, at)


class Choices(unittest.TestCase):
    def assert_choices(self, options, right):
        self.assertTrue(inspect.isgenerator(choices(options)))
        found = list(choices(options))
        self.assertEqual(found, right)
        self.assertEqual(found, own.all_choices(options))
        for choice in found:
            self.assertIs(type(choice), tuple)

    def test_one_option(self):
        self.assert_choices((NONE,), [(), (0,)])

    def test_by_cost_and_then_as_tuples(self):
        self.assert_choices((LOWER, NONE), [(), (0,), (1,), (0, 1)])
        self.assert_choices((NONE, LOWER), [(), (1,), (0,), (0, 1)])
        same = (("drop", 0, 1), ("drop", 1, 1), ("drop", 2, 2))
        self.assert_choices(same, [(), (0,), (1,), (0, 1), (2,), (0, 2), (1, 2), (0, 1, 2)])

    def test_costs_of_0(self):
        free = (("drop", 0, 0), ("drop", 1, 0), ("drop", 2, 0))
        self.assert_choices(free, [(), (0,), (0, 1), (0, 1, 2), (0, 2), (1,), (1, 2), (2,)])
        self.assert_choices((HIGHER, ("drop", 2, 0)), [(), (1,), (0,), (0, 1)])

    def test_equal_options_and_the_same_condition_or_rule(self):
        self.assert_choices((LOWER, LOWER, LOWER), [(), (0,), (1,), (2,)])
        self.assert_choices((("drop", 1, 3), ("drop", 1, 2)), [(), (1,), (0,)])
        other = ("bound", LOW, (1, 0, 0), 0)
        self.assert_choices((LOWER, HIGHER, other), [(), (2,), (0,), (1,), (1, 2), (0, 1)])
        # A bound of a condition and a rule that has it may stand together.
        self.assert_choices((LOWER, ("drop", 1, 0), ("drop", 1, 1)),
                            [(), (1,), (0,), (0, 1), (2,), (0, 2)])

    def test_drawn_options(self):
        for seed in range(200):
            draw = random.Random(seed)
            options = own.drawn_options(draw, own.drawn_protocol(seed, seed % 5))
            self.assert_choices(options, own.all_choices(options))


class WithChoice(unittest.TestCase):
    def assert_change(self, protocol, options, choice, rules):
        before = copy.deepcopy((protocol, options, choice))
        self.assertEqual(with_choice(protocol, options, choice), protocol[:3] + (rules,))
        self.assertEqual((protocol, options, choice), before)

    def test_no_option(self):
        self.assert_change(BROADCAST, (LOWER, NONE), (), BROADCAST[3])

    def test_a_bound_in_all_rules(self):
        rules = BROADCAST[3]
        high = ((0, (1, 0, 0)),)
        self.assert_change(BROADCAST, (HIGHER,), (0,), rules[:2] + (
            (0, 3, high, (0,)), (2, 3, high, ())))
        self.assert_change(BROADCAST, (NONE, LOWER), (1,), put(
            rules, 1, (0, 2, ((0, (0, 1, 0)),), (0,))))

    def test_the_same_bound(self):
        self.assert_change(BROADCAST, (("bound", LOW, LOW[1], 1),), (0,), BROADCAST[3])

    def test_bounds_that_take_one_anothers_place(self):
        options = (("bound", LOW, HIGH[1], 1), ("bound", HIGH, LOW[1], 1))
        rules = BROADCAST[3]
        self.assert_change(BROADCAST, options, (0, 1), (
            rules[0], (0, 2, (HIGH,), (0,)), (0, 3, (LOW,), (0,)), (2, 3, (LOW,), ())))
        self.assert_change(BROADCAST, options, (0,), put(rules, 1, (0, 2, (HIGH,), (0,))))

    def test_conditions_that_become_the_same_are_one_and_ascending_anew(self):
        protocol = (3, 2, (0,), ((0, 1, (LOW, HIGH), ()), (1, 2, (LOW, (1, (0, 0, 0))), ())))
        self.assert_change(protocol, (("bound", LOW, HIGH[1], 0),), (0,), (
            (0, 1, (HIGH,), ()), (1, 2, (HIGH, (1, (0, 0, 0))), ())))
        self.assert_change(protocol, (("bound", LOW, (3, 3, 1), 0),), (0,), (
            (0, 1, (HIGH, (0, (3, 3, 1))), ()), (1, 2, ((0, (3, 3, 1)), (1, (0, 0, 0))), ())))
        both = (("bound", LOW, (2, 0, 0), 0), ("bound", HIGH, (-2, 0, 0), 0))
        self.assert_change(protocol, both, (0, 1), (
            (0, 1, ((0, (-2, 0, 0)), (0, (2, 0, 0))), ()),
            (1, 2, ((0, (2, 0, 0)), (1, (0, 0, 0))), ())))

    def test_rules_are_left_out_by_the_indices_that_they_had(self):
        rules = BROADCAST[3]
        options = (("drop", 0, 1), ("drop", 1, 1), ("drop", 3, 1))
        self.assert_change(BROADCAST, options, (0,), rules[1:])
        self.assert_change(BROADCAST, options, (0, 1), rules[2:])
        self.assert_change(BROADCAST, options, (0, 2), rules[1:3])
        self.assert_change(BROADCAST, options, (0, 1, 2), rules[2:3])
        one = (2, 1, (0,), ((0, 1, (), ()),))
        self.assert_change(one, (("drop", 0, 1),), (0,), ())

    def test_rules_are_left_out_behind_bounds_put(self):
        rules = BROADCAST[3]
        options = (("bound", HIGH, LOW[1], 1), ("drop", 1, 1))
        self.assert_change(BROADCAST, options, (0, 1), (
            rules[0], (0, 3, (LOW,), (0,)), (2, 3, (LOW,), ())))
        options = (("drop", 2, 1), ("bound", HIGH, LOW[1], 1))
        self.assert_change(BROADCAST, options, (0, 1), (rules[0], rules[1], (2, 3, (LOW,), ())))

    def test_drawn_options(self):
        for seed in range(200):
            protocol = own.drawn_protocol(seed, seed % 5)
            options = own.drawn_options(random.Random(seed), protocol)
            for choice in own.all_choices(options):
                found = with_choice(protocol, options, choice)
                self.assertEqual(found, own.changed(protocol, options, choice))
                self.assertIs(require_protocol(found), found)


def mend_looks(protocol, resilience, wishes, options):
    """The first choice that mends, and how many systems each wish looked at takes."""
    looks = []
    for choice in own.all_choices(options):
        other = own.changed(protocol, options, choice)
        fulfilled = True
        for word, empty, situation in wishes:
            many, ends = looks_at((word, other, resilience, empty, situation))
            looks.append(many)
            if ends:
                fulfilled = False
                break
        if fulfilled:
            return choice, looks
    return None, looks


class Mends(unittest.TestCase):
    def assert_mend(self, question, mend="any"):
        told, looks = mend_looks(*question)
        if mend != "any":
            self.assertEqual(told, mend)
        before = copy.deepcopy(question)
        for _ in range(2):
            found = cheapest_mend(*question)
            self.assertEqual(found, told)
            self.assertIn(type(found), (tuple, type(None)))
        for tries in (max(looks), max(looks) + 1, 5000):
            self.assertEqual(cheapest_mend(*question, tries=tries), told)
        for tries in sorted({-5000, -1, 0, 1, max(looks) - 1}):
            if tries < max(looks):
                with self.assertRaises(LimitExceeded) as caught:
                    cheapest_mend(*question, tries=tries)
                self.assertEqual(caught.exception.limit, tries)
        self.assertEqual(question, before)
        return told, looks

    def assert_unsearched(self, question):
        """The first choice mends; nothing is searched, so no limit is exceeded."""
        before = copy.deepcopy(question)
        self.assertEqual(cheapest_mend(*question), ())
        for tries in (5000, 1, 0, -1):
            self.assertEqual(cheapest_mend(*question, tries=tries), ())
        self.assertEqual(question, before)

    def test_one_wish(self):
        right = ("bound", (0, (0, 1, 0)), (0, 1, 1), 2)
        self.assert_mend((WEAK, THIRD, (UNFORGED,), (("drop", 1, 9), right)), (1,))
        self.assert_mend((WEAK, THIRD, (UNFORGED,), (("drop", 1, 1), right)), (0,))
        self.assert_mend((WEAK, THIRD, (TOGETHER,), (right, ("drop", 2, 1))), ())

    def test_two_and_three_wishes(self):
        right = ("bound", (0, (0, 1, 0)), (0, 1, 1), 2)
        wishes = (UNFORGED, TOGETHER)
        # Without the rule that sends on, some stay behind.
        self.assert_mend((WEAK, THIRD, wishes, (("drop", 1, 1), right)), (1,))
        self.assert_mend((WEAK, THIRD, wishes[::-1], (("drop", 1, 1), right)), (1,))
        later = (("drop", 3, 1), ("drop", 2, 1), right)
        more = wishes + (("avoids", (1,), occupied(WEAK, (2,))),)
        self.assert_mend((WEAK, THIRD, more, later), (2,))

    def test_two_options_together(self):
        worse = put(WEAK, 3, WEAK[3] + ((1, 3, (), ()),))
        right = ("bound", (0, (0, 1, 0)), (0, 1, 1), 2)
        self.assert_mend((worse, THIRD, (UNFORGED, ("avoids", (), (((0, 0, 0, 1), (-1,), (0, 0, 0), 1),))),
                          (("drop", 4, 1), right)), (0, 1))

    def test_a_protocol_that_needs_none(self):
        wishes = (UNFORGED, TOGETHER)
        self.assert_mend((BROADCAST, THIRD, wishes, (("drop", 0, 0), ("drop", 1, 0))), ())

    def test_the_first_of_the_same_cost(self):
        options = (("drop", 0, 4), ("drop", 1, 4), ("bound", (0, (0, 1, 0)), (0, 1, 1), 4))
        self.assert_mend((WEAK, THIRD, (UNFORGED,), options), (1,))
        self.assert_mend((WEAK, THIRD, (UNFORGED,), options[::-1]), (0,))
        self.assert_mend((WEAK, THIRD, (UNFORGED,), (options[1], options[1])), (0,))
        # As tuples, (0, 1) comes ahead of (1,).
        free = (("drop", 0, 0), ("drop", 1, 0))
        self.assert_mend((WEAK, THIRD, (UNFORGED,), free), (0, 1))

    def test_none_mends(self):
        self.assert_mend((WEAK, THIRD, (("avoids", (), occupied(WEAK, (0,))),),
                          (("drop", 1, 4), ("drop", 2, 1), ("drop", 0, 0))), None)
        self.assert_mend((WEAK, THIRD, (TOGETHER, UNFORGED), (("drop", 2, 1),)), None)

    def test_no_looks_at_a_wish_behind_one_that_is_not_fulfilled(self):
        few = ("avoids", (), occupied(WEAK, (0,)))
        many = ("ends", (), occupied(WEAK, (0, 3)))
        options = (("drop", 3, 1),)
        self.assertEqual(self.assert_mend((WEAK, THIRD, (few, many), options)), (None, [1, 1]))
        self.assertIsNone(cheapest_mend(WEAK, THIRD, (few, many), options, tries=1))
        self.assertRaises(LimitExceeded, lambda: cheapest_mend(WEAK, THIRD, (many, few), options,
                                                               tries=1))

    def test_no_looks_behind_the_choice_that_mends(self):
        idle = (3, 1, (0,), ((0, 2, ((0, (-1, -1, 0)),), ()), (0, 2, ((0, (-1, 0, 0)),), ()),
                             (0, 1, (), ())))
        options = (("drop", 2, 1), ("bound", (0, (-1, 0, 0)), (3, 3, 1), 0))
        self.assert_mend((idle, THIRD, (("avoids", (), occupied(idle, (1,))),), options), (0,))

    def test_no_wishes(self):
        free = (("drop", 0, 0), ("drop", 0, 0))
        for options in (free, (("drop", 1, 4),), (LOWER, HIGHER, NONE)):
            for resilience in (THIRD,) + NONE_FIT:
                self.assert_unsearched((BROADCAST, resilience, (), options))
        for seed in range(40):
            protocol = own.drawn_protocol(seed, seed % 5)
            options = own.drawn_options(random.Random(seed), protocol)
            self.assert_unsearched((protocol, THIRD, (), options))

    def test_more_wishes_than_three(self):
        right = ("bound", (0, (0, 1, 0)), (0, 1, 1), 2)
        wishes = (TOGETHER,) * 4 + (UNFORGED,)
        self.assert_mend((WEAK, THIRD, wishes, (("drop", 2, 1), right)), (1,))

    def test_drawn_mends(self):
        found = []
        for seed, (protocol, _, empty, situation) in enumerate(drawn_questions(250)):
            if len(own.conditions(protocol)) == 4:
                continue
            draw = random.Random(seed)
            wishes = ((draw.choice(("avoids", "ends")), empty, situation),)
            for _ in range(seed % 9 // 4):
                place = draw.randrange(protocol[0])
                wishes = wishes + (("ends", (), occupied(protocol, (place,))),)
            options = own.drawn_options(draw, protocol)
            if seed % 2:
                used = range(len(protocol[3]))
                options = tuple(("drop", draw.choice(used), draw.randint(0, 3)) for _ in range(3))
            found.append(self.assert_mend((protocol, THIRD, wishes, options))[0])
        self.assertGreater(found.count(None), 10)
        self.assertGreater(found.count(()), 10)
        self.assertGreater(len([choice for choice in found if choice]), 3)


if __name__ == "__main__":
    unittest.main()
