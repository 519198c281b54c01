"""Points 7 and 8 (the own order of a run): runs."""

import unittest

from enoughheard.errors import CannotTake
from enoughheard.runs import behind_run, run_order
from tests import own
from tests.helpers import BIG, BROADCAST, HIGH, LOW, is_plain, put

FIRST = ((2, 1, 0, 0), (0,))
NUMBERS = (4, 1, 1)
# Members at 0 say kind 0, those at 1 say kind 1; who is at 2 waits for either.
A, B, C, D = (0, (0, 0, 1)), (0, (0, 1, 1)), (1, (0, 0, 1)), (1, (0, 1, 1))
WAITING = (5, 2, (0, 1, 2), ((0, 3, (), (0,)), (1, 3, (), (1,)), (2, 4, (A,), ()), (2, 4, (B,), ()),
                             (2, 4, (C,), ()), (2, 4, (D,), ()), (2, 4, (A, D), ()),
                             (2, 4, (), (0, 1))))


def fault(protocol, numbers, crowd, run):
    """The index that the error tells, None if the run can be done."""
    try:
        behind_run(protocol, numbers, crowd, run)
    except CannotTake as error:
        return error.index
    return None


class BehindRun(unittest.TestCase):
    def test_the_empty_run(self):
        self.assertEqual(behind_run(BROADCAST, NUMBERS, FIRST, ()), FIRST)
        self.assertEqual(behind_run((1, 0, (0,), ()), (3, 0, 0), ((3,), ()), ()), ((3,), ()))

    def test_the_example(self):
        found = behind_run(BROADCAST, NUMBERS, FIRST, ((0, 1), (1, 2)))
        self.assertEqual(found, ((0, 0, 3, 0), (3,)))
        self.assertTrue(is_plain(found))

    def test_many_pairs(self):
        run = ((0, 1), (1, 1), (1, 1), (3, 1), (3, 2))
        crowds = [FIRST, ((2, 0, 1, 0), (1,)), ((1, 0, 2, 0), (2,)), ((0, 0, 3, 0), (3,)),
                  ((0, 0, 2, 1), (3,)), ((0, 0, 0, 3), (3,))]
        for many in range(6):
            self.assertEqual(behind_run(BROADCAST, NUMBERS, FIRST, run[:many]), crowds[many])

    def test_two_hundred_pairs(self):
        protocol = (2, 1, (0,), ((0, 1, (), (0,)),))
        self.assertEqual(behind_run(protocol, (200, 0, 0), ((200, 0), (0,)), ((0, 1),) * 200),
                         ((0, 200), (200,)))
        self.assertEqual(fault(protocol, (199, 0, 0), ((199, 0), (0,)), ((0, 1),) * 200), 199)

    def test_several_kinds_and_none(self):
        self.assertEqual(behind_run(WAITING, (4, 1, 0), ((1, 1, 2, 0, 0), (0, 0)), ((7, 2), (0, 1))),
                         ((0, 1, 0, 1, 2), (3, 2)))
        self.assertEqual(behind_run(WAITING, (4, 1, 1), ((0, 1, 2, 0, 0), (0, 0)), ((2, 2), (1, 1))),
                         ((0, 0, 0, 1, 2), (0, 1)))

    def test_as_often_as_the_source_has_members(self):
        self.assertEqual(behind_run(BROADCAST, NUMBERS, ((0, 3, 0, 0), (0,)), ((0, 3),)),
                         ((0, 0, 3, 0), (3,)))
        self.assertEqual(fault(BROADCAST, NUMBERS, ((0, 3, 0, 0), (0,)), ((0, 4),)), 0)
        self.assertEqual(fault(BROADCAST, NUMBERS, ((0, 3, 0, 0), (0,)), ((0, 2), (0, 2))), 1)
        self.assertEqual(fault(BROADCAST, NUMBERS, ((3, 0, 0, 0), (0,)), ((0, 1),)), 0)

    def test_a_condition_that_can_be_heard_a_pair_later(self):
        self.assertEqual(fault(BROADCAST, NUMBERS, FIRST, ((1, 1), (0, 1))), 0)
        self.assertIsNone(fault(BROADCAST, NUMBERS, FIRST, ((0, 1), (1, 1))))
        # The rule itself says what it lacks, but only as it is taken.
        self.assertEqual(fault(BROADCAST, (4, 1, 1), ((3, 0, 0, 0), (0,)), ((1, 2),)), 0)

    def test_the_second_of_two_conditions(self):
        crowd = ((1, 2, 1, 0, 0), (0, 0))
        self.assertEqual(fault(WAITING, (4, 1, 0), crowd, ((0, 1), (6, 1))), 1)
        self.assertEqual(fault(WAITING, (4, 1, 0), crowd, ((1, 2), (6, 1))), 1)
        self.assertIsNone(fault(WAITING, (4, 1, 0), crowd, ((1, 2), (0, 1), (6, 1))))

    def test_the_first_of_several(self):
        self.assertEqual(fault(BROADCAST, NUMBERS, FIRST, ((0, 1), (3, 1), (0, 1), (2, 5))), 1)
        self.assertEqual(fault(BROADCAST, NUMBERS, FIRST, ((0, 1), (1, 1), (0, 1), (2, 5))), 2)
        self.assertEqual(fault(BROADCAST, NUMBERS, FIRST, ((2, 1), (2, 1))), 0)

    def test_times_of_thirty_digits(self):
        numbers, crowd = (3 * BIG + 1, BIG, BIG), ((BIG, BIG + 1, 0, 0), (0,))
        self.assertEqual(behind_run(BROADCAST, numbers, crowd, ((0, BIG), (1, BIG), (0, 1))),
                         ((0, 0, 2 * BIG + 1, 0), (2 * BIG + 1,)))
        self.assertEqual(fault(BROADCAST, numbers, crowd, ((0, BIG + 2),)), 0)
        self.assertEqual(fault(BROADCAST, numbers, crowd, ((0, BIG), (1, BIG + 1))), 1)
        self.assertEqual(fault(BROADCAST, numbers, crowd, ((0, BIG), (3, BIG))), 1)
        self.assertIsNone(fault(BROADCAST, numbers, crowd, ((0, BIG + 1), (3, BIG))))

    def test_drawn_runs(self):
        for protocol, numbers, firsts, run in own.drawn_cases(100):
            crowd = own.first(protocol, firsts)
            crowds = own.behind(protocol, numbers, crowd, run)
            self.assertEqual(behind_run(protocol, numbers, crowd, run), crowds[-1])
            for at in range(len(run)):
                for index in range(len(protocol[3])):
                    tried = put(run, at, (index, 1))
                    done = len(own.behind(protocol, numbers, crowd, tried)) - 1
                    self.assertEqual(fault(protocol, numbers, crowd, tried),
                                     None if done == len(tried) else done)


class RunOrder(unittest.TestCase):
    def assert_order(self, protocol, numbers, crowd, run, order):
        found = run_order(protocol, numbers, crowd, run)
        self.assertEqual(found, order)
        self.assertTrue(is_plain(found))

    def test_no_conditions(self):
        self.assert_order(BROADCAST, NUMBERS, FIRST, (), ())
        self.assert_order(BROADCAST, NUMBERS, FIRST, ((0, 1),), ())

    def test_the_example(self):
        self.assert_order(BROADCAST, NUMBERS, FIRST, ((0, 1), (1, 2)), (LOW,))

    def test_conditions_that_no_rule_of_the_run_has_are_left_out(self):
        self.assert_order(BROADCAST, NUMBERS, FIRST, ((0, 1), (1, 2), (3, 1)), (LOW, HIGH))
        self.assert_order(BROADCAST, (4, 1, 0), ((0, 4, 0, 0), (0,)), ((0, 4), (3, 1)), (HIGH,))

    def test_heard_at_once(self):
        crowd = ((0, 0, 3, 0, 0), (0, 0))
        self.assert_order(WAITING, (4, 0, 1), crowd, ((4, 1),), (C,))
        self.assert_order(WAITING, (4, 0, 1), crowd, ((6, 1), (5, 1), (2, 1)), (A, D))
        crowd = ((0, 0, 4, 0, 0), (0, 0))
        self.assert_order(WAITING, (6, 0, 2), crowd, ((5, 1), (4, 1), (3, 1), (2, 1)), (A, B, C, D))

    def test_by_the_pair_after_which_it_can_be_heard(self):
        crowd = ((2, 2, 4, 0, 0), (0, 0))
        asking = ((5, 1), (3, 1), (2, 1), (4, 1))
        self.assert_order(WAITING, (8, 1, 0), crowd, ((0, 1), (0, 1), (1, 1), (1, 1)) + asking,
                          (A, B, C, D))
        self.assert_order(WAITING, (8, 1, 0), crowd, ((1, 1), (0, 1), (1, 1), (0, 1)) + asking,
                          (C, A, D, B))
        self.assert_order(WAITING, (8, 1, 0), crowd, ((1, 1), (1, 1), (0, 1), (0, 1)) + asking,
                          (C, D, A, B))

    def test_those_after_the_same_pair_ascending(self):
        crowd = ((2, 2, 4, 0, 0), (0, 0))
        asking = ((5, 1), (3, 1), (2, 1), (4, 1))
        self.assert_order(WAITING, (8, 1, 0), crowd, ((1, 2), (0, 2)) + asking, (C, D, A, B))
        self.assert_order(WAITING, (8, 1, 0), ((0, 0, 8, 0, 0), (0, 0)), ((7, 2),) + asking,
                          (A, B, C, D))

    def test_when_a_rule_is_taken_does_not_matter(self):
        crowd = ((2, 2, 4, 0, 0), (0, 0))
        for asking in (((2, 1), (4, 1)), ((4, 1), (2, 1))):
            self.assert_order(WAITING, (8, 1, 0), crowd, ((1, 1), (0, 1)) + asking, (C, A))

    def test_drawn_runs(self):
        for protocol, numbers, firsts, run in own.drawn_cases(100):
            crowd = own.first(protocol, firsts)
            crowds = own.behind(protocol, numbers, crowd, run)
            asked = set(one for index, _ in run for one in protocol[3][index][2])
            when = {one: [own.heard(numbers, here, one, numbers[2]) for here in crowds].index(True)
                    for one in asked}
            order = tuple(one for at in range(len(crowds)) for one in sorted(asked)
                          if when[one] == at)
            self.assert_order(protocol, numbers, crowd, run, order)


if __name__ == "__main__":
    unittest.main()
