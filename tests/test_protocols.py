"""Points 2, 5 and 8 (the first sentence): protocols and their conditions."""

import copy
import itertools
import unittest

from enoughheard.errors import InvalidProtocol
from enoughheard.protocols import conditions_of, require_protocol
from tests.helpers import BIG, BROADCAST, HIGH, LOW, NO_INTEGERS, NO_TUPLES, deep, put

EXAMPLE = BROADCAST


def with_rules(*rules):
    return (5, 2, (0,), rules)


def part_of(value):
    """The part that the error for a value tells."""
    try:
        require_protocol(value)
    except InvalidProtocol as error:
        return error.part
    raise AssertionError("nothing raised")


def sends_twice(rules, kind):
    """Goes along every way by itself, unlike the program."""
    def most(index):
        _, target, _, sends = rules[index]
        behind = [most(other) for other in range(len(rules)) if rules[other][0] == target]
        return (kind in sends) + max(behind, default=0)
    return any(most(index) > 1 for index in range(len(rules)))


class ProtocolTests(unittest.TestCase):
    def assert_valid(self, value):
        before = copy.deepcopy(value)
        self.assertIs(require_protocol(value), value)
        self.assertEqual(value, before)

    def assert_part(self, value, part):
        before = copy.deepcopy(value)
        self.assertEqual(part_of(value), part)
        self.assertEqual(value, before)


class Valid(ProtocolTests):
    def test_the_example(self):
        self.assert_valid(EXAMPLE)

    def test_one_location(self):
        self.assert_valid((1, 0, (0,), ()))
        self.assert_valid((1, 2, (0,), ()))

    def test_five_locations(self):
        self.assert_valid((5, 2, (0, 1, 2, 3, 4), ((0, 4, (), (0, 1)), (3, 4, (), ()))))
        self.assert_valid((5, 1, (4,), ((0, 1, (), ()),)))

    def test_no_kinds(self):
        self.assert_valid((3, 0, (0, 2), ((0, 1, (), ()), (1, 2, (), ()))))

    def test_eight_rules(self):
        self.assert_valid((5, 2, (0,), ((0, 1, (LOW,), (0,)),) * 8))

    def test_two_conditions(self):
        self.assert_valid(with_rules((0, 1, (LOW, HIGH), ())))
        self.assert_valid(with_rules((0, 1, (LOW, (1, (-3, -3, 0))), ())))

    def test_four_conditions_in_all(self):
        four = tuple((kind, (0, 1, c)) for kind in (0, 1) for c in (0, 1))
        self.assert_valid(with_rules((0, 1, four[:2], ()), (0, 1, four[2:], ())))
        pairs = tuple(itertools.combinations(four, 2))
        self.assert_valid(with_rules(*((0, 1, pair, ()) for pair in pairs)))

    def test_the_edges_of_bounds(self):
        for bound in itertools.product((-3, 3), (-3, 3), (0, 1)):
            self.assert_valid(with_rules((0, 1, ((1, bound),), ())))

    def test_argument_by_name(self):
        self.assertIs(require_protocol(value=EXAMPLE), EXAMPLE)


class Parts(ProtocolTests):
    def test_no_tuple_of_four(self):
        for value in NO_TUPLES + ((), EXAMPLE[:3], EXAMPLE + ((),), list(EXAMPLE), (None,) * 5):
            self.assert_part(value, None)
        self.assert_part(dict(enumerate(EXAMPLE)), None)

    def test_many(self):
        for many in NO_INTEGERS + (0, 6, -1, BIG):
            self.assert_part(put(EXAMPLE, 0, many), ("many",))
        self.assert_part((True, 0, (0,), ()), ("many",))

    def test_kinds(self):
        for kinds in NO_INTEGERS + (3, -1, BIG):
            self.assert_part(put(EXAMPLE, 1, kinds), ("kinds",))
        self.assert_part((1, False, (0,), ()), ("kinds",))

    def test_starts(self):
        wrong = NO_TUPLES + ((), (4,), (-1,), (0, 4), (-1, 0), (0, 0), (1, 0), (0, 2, 1),
                             (0, 1, 1), (0, 1, 2, 3, 4), (False,), (0, True), (False, True),
                             (None,), (None, 0), (0, "1"), ("0", "1"), ((0,), 1), (0, (1,)),
                             ([0],), ({}, 0), (0, 1.0), ((0, 1),))
        for starts in wrong:
            self.assert_part(put(EXAMPLE, 2, starts), ("starts",))

    def test_rules(self):
        for rules in NO_TUPLES + (list(EXAMPLE[3]),):
            self.assert_part(put(EXAMPLE, 3, rules), ("rules",))
        self.assert_part((5, 2, (0,), ((0, 1, (), ()),) * 9), ("rules",))
        self.assert_part((5, 2, (0,), (None,) * 9), ("rules",))


class Rules(ProtocolTests):
    GOOD = (0, 2, (LOW, HIGH), (0,))

    def assert_wrong(self, *rules):
        for rule in rules:
            for at in (0, 1, 7):
                good = (self.GOOD,) * 8
                self.assert_part((3, 1, (0,), put(good, at, rule)), ("rule", at))

    def test_the_good_one_is_good(self):
        self.assert_valid((3, 1, (0,), (self.GOOD,) * 8))

    def test_form(self):
        self.assert_wrong(*NO_TUPLES)
        self.assert_wrong((), self.GOOD[:3], self.GOOD + ((),), list(self.GOOD))

    def test_locations(self):
        self.assert_wrong(*(put(self.GOOD, 0, source) for source in NO_INTEGERS + (-1, 2, 3)))
        self.assert_wrong(*(put(self.GOOD, 1, target) for target in NO_INTEGERS + (-1, 0, 3)))
        self.assert_wrong((2, 0) + self.GOOD[2:], (1, 1) + self.GOOD[2:], (0, True, (), ()))
        self.assert_part((1, 0, (0,), ((0, 0, (), ()),)), ("rule", 0))
        self.assert_part((1, 0, (0,), ((0, 1, (), ()),)), ("rule", 0))

    def test_conditions(self):
        three = (LOW, HIGH, (0, (2, 0, 0)))
        wrong = NO_TUPLES + (three, [LOW], (HIGH, LOW), (LOW, LOW), (LOW, None), (None, LOW),
                             ("a", LOW), (LOW, [0]), ([0], {}), LOW, ((LOW,),))
        self.assert_wrong(*(put(self.GOOD, 2, conditions) for conditions in wrong))

    def test_one_condition(self):
        wrong = NO_TUPLES + ((), (0,), LOW + (0,), list(LOW), (0, 0, 1, 1), (0, [0, 1, 1]))
        self.assert_wrong(*(put(self.GOOD, 2, (condition,)) for condition in wrong))

    def test_the_kind_of_a_condition(self):
        for kind in NO_INTEGERS + (-1, 1, 2):
            self.assert_wrong(put(self.GOOD, 2, (put(LOW, 0, kind),)))
        self.assert_part((2, 0, (0,), ((0, 1, (LOW,), ()),)), ("rule", 0))

    def test_the_bound_of_a_condition(self):
        wrong = list(NO_TUPLES) + [(), (0, 1), (0, 1, 1, 1), [0, 1, 1]]
        for at, parts in ((0, (-4, 4)), (1, (-4, 4)), (2, (-1, 2))):
            wrong = wrong + [put((0, 1, 1), at, part) for part in NO_INTEGERS + parts]
        for bound in wrong:
            self.assert_wrong(put(self.GOOD, 2, ((0, bound),)))
            self.assert_wrong(put(self.GOOD, 2, ((0, (-3, 0, 0)), (0, bound))))

    def test_sends(self):
        wrong = NO_TUPLES + ((-1,), (1,), (0, 0), (0, 1), (True,), (False,), (None, 0), ("0",),
                             (0, "0"), ((0,),), ((), 0), ([],), (0, {}))
        self.assert_wrong(*(put(self.GOOD, 3, sends) for sends in wrong))

    def test_sends_of_two_kinds(self):
        for sends in ((1, 0), (1, 1), (0, 1, 1), (0, 2), (0, True), (False, 1), (0, None)):
            self.assert_part(with_rules((0, 1, (), (0, 1)), (0, 1, (), sends)), ("rule", 1))
        self.assert_valid(with_rules((0, 1, (), (0, 1)), (0, 1, (), (1,))))

    def test_sends_without_kinds(self):
        self.assert_part((2, 0, (0,), ((0, 1, (), (0,)),)), ("rule", 0))


class Twice(ProtocolTests):
    def test_one_rule_behind_the_other(self):
        self.assert_part(with_rules((0, 1, (), (0,)), (1, 2, (), (0,))), ("twice", 0))
        self.assert_part(with_rules((0, 1, (), (1,)), (1, 2, (), (1,))), ("twice", 1))

    def test_the_rules_in_any_order(self):
        rules = ((0, 1, (), (1,)), (1, 2, (), ()), (2, 4, (), (0, 1)))
        for order in itertools.permutations(rules):
            self.assert_part(with_rules(*order), ("twice", 1))

    def test_not_directly_behind(self):
        self.assert_part(with_rules((0, 1, (), (0,)), (1, 2, (), ()), (2, 3, (), ()),
                                    (3, 4, (), (0,))), ("twice", 0))

    def test_the_least_kind(self):
        self.assert_part(with_rules((0, 1, (), (0, 1)), (1, 2, (), (0, 1))), ("twice", 0))
        self.assert_part(with_rules((3, 4, (), (0,)), (2, 3, (), (0,)), (0, 1, (), (1,)),
                                    (1, 2, (), (1,))), ("twice", 0))

    def test_where_nobody_comes(self):
        self.assert_part((5, 1, (0,), ((2, 3, (), (0,)), (3, 4, (), (0,)))), ("twice", 0))

    def test_not_on_one_way(self):
        self.assert_valid(with_rules((0, 1, (), (0,)), (0, 2, (), (0,)), (1, 2, (), (1,)),
                                     (3, 4, (), (0,))))
        self.assert_valid(with_rules((0, 2, (), (0,)), (1, 3, (), (0,)), (2, 4, (), (1,))))

    def test_a_way_that_sends_less_does_not_hide_one_that_sends_more(self):
        rules = ((0, 2, (), (0,)), (1, 2, (), ()), (2, 3, (), (0,)))
        for order in itertools.permutations(rules):
            self.assert_part(with_rules(*order), ("twice", 0))

    def test_all_small_tables(self):
        spans = ((0, 1), (0, 2), (1, 2), (1, 3), (2, 3))
        choices = [span + ((), sends) for span in spans for sends in ((), (0,), (0, 1))]
        for rules in itertools.product(choices, repeat=3):
            value = (4, 2, (0,), rules)
            twice = [kind for kind in (0, 1) if sends_twice(rules, kind)]
            if twice:
                self.assert_part(value, ("twice", twice[0]))
            else:
                self.assert_valid(value)


class TooManyConditions(ProtocolTests):
    FIVE = tuple((0, (a, 0, 0)) for a in range(-2, 3))

    def test_five(self):
        self.assert_part(with_rules(*((0, 1, (one,), ()) for one in self.FIVE)), ("conditions",))
        self.assert_part(with_rules((0, 1, self.FIVE[:2], ()), (1, 2, self.FIVE[2:4], ()),
                                    (2, 3, self.FIVE[4:], ())), ("conditions",))

    def test_five_that_differ_in_one_part_each(self):
        near = ((0, (0, 0, 0)), (0, (0, 0, 1)), (0, (0, 1, 0)), (0, (1, 0, 0)), (1, (0, 0, 0)))
        self.assert_part(with_rules(*((0, 1, (one,), ()) for one in near)), ("conditions",))
        self.assert_valid(with_rules(*((0, 1, (one,), ()) for one in near[1:])))


class SeveralFaults(ProtocolTests):
    def test_the_first_one_is_told(self):
        faults = (("many",), ("kinds",), ("starts",), ("rules",))
        for first in range(4):
            value = EXAMPLE
            for at in range(first, 4):
                value = put(value, at, None)
            self.assert_part(value, faults[first])
        self.assert_part((None,) * 4, ("many",))
        self.assert_part((None,) * 3, None)

    def test_starts_before_rules(self):
        self.assert_part((2, 0, (2,), (None,)), ("starts",))

    def test_a_rule_before_twice_and_conditions(self):
        twice = ((0, 1, (), (0,)), (1, 2, (), (0,)))
        five = tuple((0, 1, (one,), ()) for one in TooManyConditions.FIVE)
        self.assert_part(with_rules(*twice, *five, (1, 1, (), ())), ("rule", 7))
        self.assert_part(with_rules(*twice, (0, 1, None, ()), None), ("rule", 2))

    def test_twice_before_conditions(self):
        five = tuple((0, 1, (one,), ()) for one in TooManyConditions.FIVE)
        self.assert_part(with_rules(*five, (0, 1, (), (1,)), (1, 2, (), (1,))), ("twice", 1))

    def test_too_many_rules_before_wrong_ones(self):
        self.assert_part(with_rules(*((None,) * 9)), ("rules",))


class AnyDepth(ProtocolTests):
    def test_deep_values_in_each_place(self):
        value = deep(5000)
        self.assertEqual(part_of(value), None)
        for at, part in enumerate((("many",), ("kinds",), ("starts",), ("rule", 0))):
            self.assertEqual(part_of(put(EXAMPLE, at, value)), part)
        for at in range(4):
            rules = (put(EXAMPLE[3][0], at, value),)
            self.assertEqual(part_of(put(EXAMPLE, 3, rules)), ("rule", 0))
        for condition in (value, (0, value), (value, (0, 1, 1)), (0, (0, value, 1))):
            self.assertEqual(part_of(with_rules((0, 1, (condition,), ()))), ("rule", 0))

    def test_lists_and_dicts_in_each_place(self):
        for value in ([[[1]]], {"a": {"b": [1, {}]}}, ([], {}, "a", None, True)):
            for at, part in enumerate((("many",), ("kinds",), ("starts",))):
                self.assert_part(put(EXAMPLE, at, value), part)
            for at in range(4):
                self.assert_part(put(EXAMPLE, 3, (put(EXAMPLE[3][0], at, value),)), ("rule", 0))


class ConditionsOf(ProtocolTests):
    def test_the_example(self):
        self.assertEqual(conditions_of(EXAMPLE), (LOW, HIGH))

    def test_none(self):
        self.assertEqual(conditions_of((1, 0, (0,), ())), ())
        self.assertEqual(conditions_of((2, 1, (0,), ((0, 1, (), (0,)),))), ())

    def test_shared_ones_stand_once(self):
        self.assertEqual(conditions_of(with_rules(*((0, 1, (LOW, HIGH), ()),) * 8)), (LOW, HIGH))
        self.assertEqual(conditions_of(with_rules((0, 1, (LOW,), ()), (0, 1, (LOW, HIGH), ()),
                                                  (1, 2, (HIGH,), ()))), (LOW, HIGH))

    def test_ascending_by_kind_and_then_by_bound(self):
        ascending = ((0, (-1, 3, 1)), (0, (0, -3, 0)), (0, (0, -3, 1)), (1, (-3, -3, 0)))
        for order in itertools.permutations(ascending):
            protocol = with_rules(*((0, 1, (one,), ()) for one in order))
            self.assert_valid(protocol)
            found = conditions_of(protocol)
            self.assertEqual(found, ascending)
            self.assertIs(type(found), tuple)

    def test_argument_by_name(self):
        self.assertEqual(conditions_of(protocol=EXAMPLE), (LOW, HIGH))


if __name__ == "__main__":
    unittest.main()
