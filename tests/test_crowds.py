"""Point 6: crowds."""

import unittest

from enoughheard.crowds import can_hear, can_take, first_crowd, hears, is_end, is_first, urged
from tests import own
from tests.helpers import BIG, BROADCAST, HIGH, LOW, is_plain

TWO = (1, (0, 2, 1))
# Rules out of location 0 with each pair of none, one and two conditions.
ASKING = (3, 2, (0,), ((0, 1, (), ()), (0, 1, (LOW,), ()), (0, 1, (TWO,), ()),
                       (0, 2, (LOW, TWO), ()), (1, 2, (LOW, TWO), ())))


class FirstCrowd(unittest.TestCase):
    def test_no_kind_one_and_two(self):
        self.assertEqual(first_crowd((2, 0, (0,), ()), (3, 0)), ((3, 0), ()))
        self.assertEqual(first_crowd(BROADCAST, (2, 1, 0, 0)), ((2, 1, 0, 0), (0,)))
        self.assertEqual(first_crowd((1, 2, (0,), ()), (0,)), ((0,), (0, 0)))
        self.assertEqual(first_crowd((1, 2, (0,), ()), (BIG,)), ((BIG,), (0, 0)))

    def test_plain_tuples(self):
        self.assertTrue(is_plain(first_crowd(BROADCAST, (2, 1, 0, 0))))


class IsFirst(unittest.TestCase):
    def test_all_is_right(self):
        self.assertIs(is_first(BROADCAST, (4, 1, 1), (), (2, 1, 0, 0)), True)
        self.assertIs(is_first(BROADCAST, (4, 1, 0), (), (0, 4, 0, 0)), True)
        self.assertIs(is_first(BROADCAST, (4, 1, 0), (0,), (0, 4, 0, 0)), True)
        self.assertIs(is_first(BROADCAST, (4, 1, 0), (1,), (4, 0, 0, 0)), True)
        self.assertIs(is_first(BROADCAST, (3, 0, 3), (), (0, 0, 0, 0)), True)
        self.assertIs(is_first(BROADCAST, (0, 0, 0), (), (0, 0, 0, 0)), True)
        self.assertIs(is_first(BROADCAST, (3 * BIG, 0, BIG), (), (BIG, BIG, 0, 0)), True)

    def test_resilience_and_t_do_not_matter(self):
        self.assertIs(is_first(BROADCAST, (3, BIG, 2), (), (1, 0, 0, 0)), True)

    def test_somebody_outside_the_starts(self):
        for firsts in ((0, 0, 3, 0), (0, 0, 0, 3), (2, 0, 1, 0), (1, 1, 0, 1)):
            self.assertIs(is_first(BROADCAST, (4, 1, 1), (), firsts), False)
        middle = (3, 0, (1,), ())
        self.assertIs(is_first(middle, (2, 0, 0), (), (0, 2, 0)), True)
        self.assertIs(is_first(middle, (2, 0, 0), (), (1, 1, 0)), False)
        self.assertIs(is_first(middle, (2, 0, 0), (), (0, 1, 1)), False)

    def test_somebody_in_an_empty_start(self):
        self.assertIs(is_first(BROADCAST, (4, 1, 1), (1,), (2, 1, 0, 0)), False)
        self.assertIs(is_first(BROADCAST, (4, 1, 1), (0,), (2, 1, 0, 0)), False)
        self.assertIs(is_first(BROADCAST, (4, 1, 1), (0,), (3, 0, 0, 0)), False)
        self.assertIs(is_first(BROADCAST, (4, 1, 1), (0,), (0, 3, 0, 0)), True)

    def test_another_sum(self):
        for firsts in ((2, 0, 0, 0), (2, 2, 0, 0), (0, 0, 0, 0), (3, 1, 0, 0), (BIG, 0, 0, 0)):
            self.assertIs(is_first(BROADCAST, (4, 1, 1), (), firsts), False)
        self.assertIs(is_first(BROADCAST, (2 * BIG, 0, 0), (), (BIG, BIG - 1, 0, 0)), False)

    def test_more_liars_than_members(self):
        self.assertIs(is_first(BROADCAST, (1, 0, 2), (), (0, 0, 0, 0)), False)
        self.assertIs(is_first(BROADCAST, (1, 0, 2), (), (1, 0, 0, 0)), False)
        self.assertIs(is_first(BROADCAST, (0, 0, BIG), (), (0, 0, 0, 0)), False)

    def test_all_counts_of_three(self):
        for empty in ((), (0,), (1,)):
            right = list(own.all_firsts(BROADCAST, (3, 0, 0), empty))
            for at in range(4 ** 4):
                firsts = tuple(at // 4 ** place % 4 for place in range(4))
                told = is_first(BROADCAST, (3, 0, 0), empty, firsts)
                self.assertIs(told, firsts in right, (empty, firsts))


class Hearing(unittest.TestCase):
    def assert_hearing(self, numbers, said, condition, can, does):
        crowd = ((5, 5, 5, 5), said)
        self.assertIs(can_hear(numbers, crowd, condition), can)
        self.assertIs(hears(numbers, crowd, condition), does)

    def test_just_met_and_just_missed(self):
        self.assert_hearing((7, 2, 2), (0,), LOW, False, False)
        self.assert_hearing((7, 2, 2), (1,), LOW, True, False)
        self.assert_hearing((7, 2, 2), (2,), LOW, True, False)
        self.assert_hearing((7, 2, 2), (3,), LOW, True, True)
        self.assert_hearing((7, 2, 2), (2,), HIGH, False, False)
        self.assert_hearing((7, 2, 2), (3,), HIGH, True, False)
        self.assert_hearing((7, 2, 2), (4,), HIGH, True, False)
        self.assert_hearing((7, 2, 2), (5,), HIGH, True, True)

    def test_without_liars_both_are_the_same(self):
        self.assert_hearing((7, 2, 0), (2,), LOW, False, False)
        self.assert_hearing((7, 2, 0), (3,), LOW, True, True)

    def test_values_of_0_and_below(self):
        self.assert_hearing((7, 2, 0), (0,), (0, (0, 0, 0)), True, True)
        self.assert_hearing((7, 2, 0), (0,), (0, (0, 0, 1)), False, False)
        self.assert_hearing((7, 2, 1), (0,), (0, (0, 0, 1)), True, False)
        self.assert_hearing((7, 2, 0), (0,), (0, (-1, 0, 0)), True, True)
        self.assert_hearing((7, 2, 0), (0,), (0, (-3, 3, 1)), True, True)
        self.assert_hearing((0, 0, 0), (0,), (0, (3, 3, 0)), True, True)

    def test_the_kind_of_the_condition(self):
        self.assert_hearing((7, 2, 0), (0, 5), TWO, True, True)
        self.assert_hearing((7, 2, 0), (5, 4), TWO, False, False)
        self.assert_hearing((7, 2, 1), (0, 4), TWO, True, False)
        self.assert_hearing((7, 2, 0), (3, 0), LOW, True, True)
        self.assert_hearing((7, 2, 0), (2, 9), LOW, False, False)

    def test_numbers_of_thirty_digits(self):
        numbers = (3 * BIG, BIG, BIG - 1)
        self.assert_hearing(numbers, (BIG + 1,), LOW, True, True)
        self.assert_hearing(numbers, (BIG,), LOW, True, False)
        self.assert_hearing(numbers, (2,), LOW, True, False)
        self.assert_hearing(numbers, (1,), LOW, False, False)
        self.assert_hearing(numbers, (BIG + 1,), HIGH, True, False)
        self.assert_hearing(numbers, (BIG,), HIGH, False, False)
        self.assert_hearing(numbers, (2 * BIG,), HIGH, True, True)

    def test_all_bounds(self):
        for numbers in ((4, 1, 0), (4, 1, 2), (0, 0, 0)):
            for a in range(-3, 4):
                for b in range(-3, 4):
                    for c in (0, 1):
                        for said in range(6):
                            least = a * numbers[0] + b * numbers[1] + c
                            self.assert_hearing(numbers, (said,), (0, (a, b, c)),
                                                said + numbers[2] >= least, said >= least)


class Taking(unittest.TestCase):
    def assert_rules(self, protocol, numbers, crowd, can, urges):
        self.assertEqual(can_take(protocol, numbers, crowd), can)
        self.assertEqual(urged(protocol, numbers, crowd), urges)
        self.assertIs(is_end(protocol, numbers, crowd), urges == ())

    def test_the_example(self):
        self.assert_rules(BROADCAST, (4, 1, 1), ((2, 0, 1, 0), (1,)), (1,), ())

    def test_an_empty_source(self):
        self.assert_rules(ASKING, (4, 1, 1), ((0, 0, 3), (9, 9)), (), ())
        self.assert_rules(ASKING, (4, 1, 1), ((0, 1, 0), (9, 9)), (4,), (4,))
        self.assert_rules(BROADCAST, (4, 1, 1), ((0, 1, 0, 0), (0,)), (0,), (0,))
        self.assert_rules(BROADCAST, (4, 1, 1), ((0, 0, 0, 3), (9,)), (), ())

    def test_none_one_and_both_of_two_conditions(self):
        # With t 1, LOW asks for 2 of kind 0 and TWO for 3 of kind 1.
        one = (1, 0, 0)
        self.assert_rules(ASKING, (4, 1, 0), (one, (1, 2)), (0,), (0,))
        self.assert_rules(ASKING, (4, 1, 0), (one, (2, 2)), (0, 1), (0, 1))
        self.assert_rules(ASKING, (4, 1, 0), (one, (1, 3)), (0, 2), (0, 2))
        self.assert_rules(ASKING, (4, 1, 0), (one, (2, 3)), (0, 1, 2, 3), (0, 1, 2, 3))

    def test_liars_help_to_take_and_do_not_urge(self):
        one = (1, 1, 0)
        self.assert_rules(ASKING, (4, 1, 1), (one, (0, 1)), (0,), (0,))
        self.assert_rules(ASKING, (4, 1, 1), (one, (1, 1)), (0, 1), (0,))
        self.assert_rules(ASKING, (4, 1, 1), (one, (2, 1)), (0, 1), (0, 1))
        self.assert_rules(ASKING, (4, 1, 1), (one, (1, 2)), (0, 1, 2, 3, 4), (0,))
        self.assert_rules(ASKING, (4, 1, 1), (one, (2, 2)), (0, 1, 2, 3, 4), (0, 1))
        self.assert_rules(ASKING, (4, 1, 1), (one, (2, 3)), (0, 1, 2, 3, 4), (0, 1, 2, 3, 4))

    def test_counts_of_thirty_digits(self):
        self.assert_rules(BROADCAST, (4 * BIG, BIG, 0), ((BIG, 0, BIG, 0), (BIG + 1,)), (1,), (1,))
        self.assert_rules(BROADCAST, (4 * BIG, BIG, 0), ((BIG, 0, BIG, 0), (3 * BIG,)),
                          (1, 2, 3), (1, 2, 3))

    def test_without_rules_all_is_an_end(self):
        self.assert_rules((1, 1, (0,), ()), (4, 1, 1), ((3,), (0,)), (), ())

    def test_ends_and_others(self):
        self.assertIs(is_end(BROADCAST, (4, 1, 1), ((3, 0, 0, 0), (0,))), True)
        self.assertIs(is_end(BROADCAST, (4, 1, 1), ((2, 1, 0, 0), (0,))), False)
        self.assertIs(is_end(BROADCAST, (4, 1, 1), ((1, 0, 2, 0), (2,))), False)
        self.assertIs(is_end(BROADCAST, (4, 1, 1), ((0, 0, 3, 0), (3,))), False)
        self.assertIs(is_end(BROADCAST, (4, 1, 1), ((0, 0, 0, 3), (3,))), True)

    def test_drawn_crowds(self):
        for protocol, numbers, firsts, run in own.drawn_cases(60):
            for crowd in own.behind(protocol, numbers, own.first(protocol, firsts), run):
                can = [index for index in range(len(protocol[3]))
                       if own.step(protocol, numbers, crowd, index) is not None]
                urges = [index for index in can if all(own.heard(numbers, crowd, one, 0)
                                                       for one in protocol[3][index][2])]
                self.assert_rules(protocol, numbers, crowd, tuple(can), tuple(urges))
                self.assertTrue(is_plain(can_take(protocol, numbers, crowd)))


if __name__ == "__main__":
    unittest.main()
