"""Points 8 and 9 (the columns of an order): orders."""

import itertools
import unittest

from enoughheard.orders import columns, follows, parts_of, usable
from enoughheard.runs import run_order
from tests import own
from tests.helpers import BIG, BROADCAST, HIGH, LOW, is_plain

FIRST = ((2, 1, 0, 0), (0,))
NUMBERS = (4, 1, 1)
EARLY, LATE = (0, (0, 0, 1)), (0, (0, 0, 2))
OTHER = (1, (0, 0, 1))
# Who is at 1 says kind 0; who is at 2 waits for it.
WAITING = (4, 2, (1, 2), ((2, 3, (EARLY,), ()), (2, 3, (EARLY, LATE), ()), (1, 3, (), (0,)),
                          (2, 3, (OTHER,), ())))


def least_parts(protocol, numbers, crowd, run, order):
    """The beginnings of the parts: the least ones of all that would do, tried one by one."""
    crowds = own.behind(protocol, numbers, crowd, run)
    for begins in itertools.combinations_with_replacement(range(len(run) + 1), len(order)):
        if not all(own.heard(numbers, crowds[begin], one, numbers[2])
                   for begin, one in zip(begins, order)):
            continue
        edges = (0,) + begins + (len(run),)
        if all(set(protocol[3][index][2]) <= set(order[:part])
               for part in range(len(order) + 1)
               for index, _ in run[edges[part]:edges[part + 1]]):
            return begins
    return None


class Usable(unittest.TestCase):
    def test_the_order_without_conditions(self):
        self.assertEqual(usable(BROADCAST, ()), (0,))
        self.assertEqual(usable(WAITING, ()), (2,))

    def test_the_example(self):
        self.assertEqual(usable(BROADCAST, (LOW,)), (0, 1))

    def test_all_conditions_in_their_order_and_turned(self):
        self.assertEqual(usable(BROADCAST, (HIGH,)), (0, 2, 3))
        self.assertEqual(usable(BROADCAST, (LOW, HIGH)), (0, 1, 2, 3))
        self.assertEqual(usable(BROADCAST, (HIGH, LOW)), (0, 1, 2, 3))

    def test_a_rule_with_two_conditions_asks_for_both(self):
        self.assertEqual(usable(WAITING, (EARLY,)), (0, 2))
        self.assertEqual(usable(WAITING, (LATE,)), (2,))
        self.assertEqual(usable(WAITING, (OTHER, LATE)), (2, 3))
        self.assertEqual(usable(WAITING, (LATE, EARLY)), (0, 1, 2))
        for order in itertools.permutations((EARLY, LATE, OTHER)):
            self.assertEqual(usable(WAITING, order), (0, 1, 2, 3))

    def test_no_rules(self):
        self.assertEqual(usable((2, 1, (0,), ()), ()), ())


class Columns(unittest.TestCase):
    NUMBERS = (("n",), ("t",), ("f",))

    def test_the_example(self):
        self.assertEqual(columns(BROADCAST, ()), self.NUMBERS
                         + (("first", 0), ("first", 1), ("take", 0, 0)))

    def test_parts(self):
        self.assertEqual(columns(BROADCAST, (LOW, HIGH)), self.NUMBERS + (
            ("first", 0), ("first", 1), ("take", 0, 0), ("take", 1, 0), ("take", 1, 1),
            ("take", 2, 0), ("take", 2, 1), ("take", 2, 2), ("take", 2, 3)))
        self.assertEqual(columns(BROADCAST, (HIGH, LOW)), self.NUMBERS + (
            ("first", 0), ("first", 1), ("take", 0, 0), ("take", 1, 0), ("take", 1, 2),
            ("take", 1, 3), ("take", 2, 0), ("take", 2, 1), ("take", 2, 2), ("take", 2, 3)))

    def test_starts_that_are_not_the_first_locations(self):
        self.assertEqual(columns(WAITING, (LATE,)), self.NUMBERS + (
            ("first", 1), ("first", 2), ("take", 0, 2), ("take", 1, 2)))
        self.assertEqual(columns((5, 0, (1, 2, 4), ()), ()), self.NUMBERS + (
            ("first", 1), ("first", 2), ("first", 4)))

    def test_no_rules(self):
        self.assertEqual(columns((1, 2, (0,), ()), ()), self.NUMBERS + (("first", 0),))

    def test_all_orders(self):
        for seed in range(15):
            protocol = own.drawn_protocol(seed, seed % 5)
            for many in range(seed % 5 + 1):
                for order in itertools.permutations(own.conditions(protocol), many):
                    found = columns(protocol, order)
                    self.assertTrue(is_plain(found))
                    told = [name if type(name) is tuple else (name,)
                            for name in own.names(protocol, order)]
                    self.assertEqual(found, tuple(told))
                    last = tuple(name[2] for name in found if name[:2] == ("take", many))
                    self.assertEqual(usable(protocol, order), last)
                    self.assertTrue(is_plain(usable(protocol, order)))


class Parts(unittest.TestCase):
    def assert_parts(self, protocol, numbers, crowd, run, order, parts):
        found = parts_of(protocol, numbers, crowd, run, order)
        self.assertEqual(found, parts)
        self.assertTrue(is_plain(found))
        self.assertIs(follows(protocol, numbers, crowd, run, order), parts is not None)

    def test_the_order_without_conditions(self):
        self.assert_parts(BROADCAST, NUMBERS, FIRST, (), (), ())
        self.assert_parts(BROADCAST, NUMBERS, FIRST, ((0, 1),), (), ())
        self.assert_parts(BROADCAST, NUMBERS, FIRST, ((0, 1), (1, 1)), (), None)

    def test_a_part_for_each_condition(self):
        run = ((0, 1), (1, 2), (3, 3))
        self.assert_parts(BROADCAST, NUMBERS, FIRST, run, (LOW, HIGH), (1, 2))
        self.assert_parts(BROADCAST, NUMBERS, FIRST, run[:2], (LOW,), (1,))

    def test_a_condition_left_out(self):
        run = ((0, 1), (1, 2), (3, 3))
        for order in ((), (LOW,), (HIGH,)):
            self.assert_parts(BROADCAST, NUMBERS, FIRST, run, order, None)

    def test_a_condition_too_late_in_the_order(self):
        self.assert_parts(BROADCAST, NUMBERS, FIRST, ((0, 1), (1, 2)), (HIGH, LOW), None)
        self.assert_parts(BROADCAST, NUMBERS, FIRST, ((0, 1), (1, 1), (1, 1)), (HIGH, LOW), None)
        self.assert_parts(BROADCAST, (4, 1, 1), ((1, 2, 0, 0), (0,)), ((0, 2), (1, 1)),
                          (HIGH, LOW), (1, 1))

    def test_a_condition_that_is_never_heard(self):
        self.assert_parts(BROADCAST, NUMBERS, FIRST, ((0, 1),), (HIGH,), None)
        self.assert_parts(BROADCAST, NUMBERS, FIRST, ((0, 1),), (LOW, HIGH), None)
        self.assert_parts(BROADCAST, NUMBERS, FIRST, (), (LOW,), None)

    def test_parts_that_begin_after_all_pairs(self):
        self.assert_parts(BROADCAST, NUMBERS, FIRST, ((0, 1),), (LOW,), (1,))
        self.assert_parts(BROADCAST, NUMBERS, FIRST, ((0, 1), (1, 1)), (LOW, HIGH), (1, 2))
        self.assert_parts(BROADCAST, (7, 2, 2), ((5, 0, 0, 0), (0,)), (), (), ())

    def test_parts_that_are_empty(self):
        self.assert_parts(BROADCAST, (4, 0, 1), FIRST, (), (LOW,), (0,))
        self.assert_parts(BROADCAST, NUMBERS, ((1, 2, 0, 0), (0,)), ((0, 2), (2, 1)),
                          (LOW, HIGH), (1, 1))
        self.assert_parts(BROADCAST, NUMBERS, ((1, 2, 0, 0), (0,)), ((0, 2), (2, 1)),
                          (HIGH, LOW), (1, 1))
        self.assert_parts(WAITING, (3, 0, 3), ((0, 0, 0, 0), (0, 0)), (), (LATE, OTHER, EARLY),
                          (0, 0, 0))

    def test_the_least_beginnings(self):
        crowd = ((0, 3, 2, 0), (0, 0))
        run = ((2, 1), (2, 1), (2, 1), (0, 1), (1, 1))
        self.assert_parts(WAITING, (5, 0, 0), crowd, run, (EARLY, LATE), (1, 2))
        self.assert_parts(WAITING, (5, 0, 0), crowd, run, (LATE, EARLY), (2, 2))
        self.assert_parts(WAITING, (6, 0, 1), crowd, run, (EARLY, LATE), (0, 1))
        self.assert_parts(WAITING, (7, 0, 2), crowd, run, (LATE, EARLY), (0, 0))

    def test_more_conditions_than_needed(self):
        crowd = ((0, 3, 2, 0), (0, 0))
        self.assert_parts(WAITING, (5, 0, 0), crowd, ((2, 1), (0, 1), (2, 1)), (EARLY, LATE), (1, 3))
        self.assert_parts(WAITING, (5, 0, 0), crowd, ((2, 1), (0, 1), (2, 1)), (LATE, EARLY), None)
        self.assert_parts(WAITING, (5, 0, 0), crowd, ((2, 1), (2, 1), (0, 1)), (LATE, EARLY), (2, 2))
        self.assert_parts(WAITING, (5, 0, 0), crowd, ((2, 1), (0, 1)), (EARLY, OTHER), None)

    def test_crowds_that_are_not_first(self):
        self.assert_parts(WAITING, (5, 0, 0), ((0, 1, 2, 2), (1, 0)), ((0, 1), (2, 1), (1, 1)),
                          (EARLY, LATE), (0, 2))

    def test_times_of_thirty_digits(self):
        numbers, crowd = (3 * BIG + 1, BIG, BIG), ((BIG, BIG + 1, 0, 0), (0,))
        self.assert_parts(BROADCAST, numbers, crowd, ((0, BIG), (1, BIG)), (LOW, HIGH), (1, 2))
        self.assert_parts(BROADCAST, numbers, crowd, ((0, BIG + 1), (1, BIG)), (LOW, HIGH), (1, 1))

    def test_drawn_runs(self):
        for protocol, numbers, firsts, run in own.drawn_cases(60):
            crowd = own.first(protocol, firsts)
            for many in range(len(own.conditions(protocol)) + 1):
                for order in itertools.permutations(own.conditions(protocol), many):
                    self.assert_parts(protocol, numbers, crowd, run, order,
                                      least_parts(protocol, numbers, crowd, run, order))

    def test_each_run_follows_its_own_order(self):
        for protocol, numbers, firsts, run in own.drawn_cases(100):
            crowd = own.first(protocol, firsts)
            order = run_order(protocol, numbers, crowd, run)
            self.assertIs(follows(protocol, numbers, crowd, run, order), True)


if __name__ == "__main__":
    unittest.main()
