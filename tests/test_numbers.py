"""Points 2, 4 and 15 (the first two sentences): numbers, bounds and resiliences."""

import copy
import itertools
import unittest

from enoughheard.errors import InvalidResilience
from enoughheard.numbers import bound_value, fits, require_resilience, with_factor
from tests.helpers import BIG, NO_INTEGERS, deep, put

ROW = (1, -3, 0, 1)


def index_of(value):
    """The index that the error for a value tells."""
    try:
        require_resilience(value)
    except InvalidResilience as error:
        return error.index
    raise AssertionError("nothing raised")


class BoundValue(unittest.TestCase):
    def test_the_example(self):
        self.assertEqual(bound_value((0, 1, 1), (7, 2, 2)), 3)

    def test_some_by_hand(self):
        self.assertEqual(bound_value((1, -1, 0), (7, 2, 0)), 5)
        self.assertEqual(bound_value((-3, 3, 1), (10, 2, 9)), -23)
        self.assertEqual(bound_value((0, 0, 0), (5, 6, 7)), 0)
        self.assertEqual(bound_value((0, 0, 1), (5, 6, 7)), 1)
        self.assertEqual(bound_value((3, 3, 1), (0, 0, 0)), 1)

    def test_all_bounds(self):
        for n, t, f in ((0, 0, 0), (1, 0, 0), (0, 1, 9), (7, 2, 2), (40, 13, 5)):
            for a, b, c in itertools.product(range(-3, 4), range(-3, 4), (0, 1)):
                value = bound_value((a, b, c), (n, t, f))
                self.assertEqual(value, n * a + t * b + c)
                self.assertIs(type(value), int)

    def test_numbers_of_thirty_digits(self):
        self.assertEqual(bound_value((3, -3, 1), (BIG + 1, BIG, BIG)), 4)
        self.assertEqual(bound_value((-3, 0, 0), (BIG, 5, 5)), -370370367037037036703703703670)
        self.assertEqual(bound_value((0, 2, 1), (5, BIG, 5)), 246913578024691357802469135781)

    def test_arguments_by_name(self):
        self.assertEqual(bound_value(numbers=(7, 2, 2), bound=(0, 1, 1)), 3)


class RequireResilience(unittest.TestCase):
    def assert_index(self, value, index):
        before = copy.deepcopy(value)
        self.assertEqual(index_of(value), index)
        self.assertEqual(value, before)

    def test_one_to_five_rows_are_returned_as_passed(self):
        rows = [ROW, (0, 1, -1, 0), (-9, -9, -9, 0), (9, 9, 9, 9), (0, 0, 0, 0)]
        for many in range(1, 6):
            value = tuple(rows[:many])
            self.assertIs(require_resilience(value), value)
            self.assertEqual(value, tuple(rows[:many]))

    def test_equal_rows(self):
        value = (ROW,) * 5
        self.assertIs(require_resilience(value), value)

    def test_each_edge(self):
        for at in range(3):
            for part in (-9, 9):
                row = put(ROW, at, part)
                self.assertEqual(require_resilience((row,)), (row,))
            for part in (-10, 10, BIG, -BIG):
                self.assert_index((put(ROW, at, part),), 0)
        for c in (0, 9):
            self.assertEqual(require_resilience(((0, 0, 0, c),)), ((0, 0, 0, c),))
        for c in (-9, -1, 10, BIG):
            self.assert_index(((0, 0, 0, c),), 0)

    def test_none_for_what_is_no_tuple_of_one_to_five(self):
        for value in (None, 0, 1, True, False, "", "rows", [], [ROW], {}, {0: ROW}, {"a": [ROW]}):
            self.assert_index(value, None)
        self.assert_index((), None)
        self.assert_index((ROW,) * 6, None)
        self.assert_index((None,) * 6, None)
        self.assert_index((ROW,) * 60, None)

    def test_a_row_is_no_resilience(self):
        self.assert_index(ROW, 0)

    def test_the_first_row_that_is_none(self):
        wrong = (None, 3, True, "1301", (), (1,), (1, -3, 0), (1, -3, 0, 1, 0), [1, -3, 0, 1],
                 {}, {0: 1, 1: 2, 2: 3, 3: 4}, ((1, -3, 0, 1),))
        for row in wrong:
            for at in range(5):
                self.assert_index((ROW,) * at + (row,) + (ROW,) * (4 - at), at)
                self.assert_index((ROW,) * at + (row,) * (5 - at), at)

    def test_parts_that_are_no_integers(self):
        for at in range(4):
            for part in NO_INTEGERS:
                self.assert_index((ROW, put(ROW, at, part)), 1)

    def test_values_at_any_depth(self):
        self.assertEqual(index_of(deep(5000)), 0)
        self.assertEqual(index_of((ROW, deep(5000))), 1)
        self.assertEqual(index_of((ROW, (1, deep(5000), 0, 1))), 1)
        self.assert_index([deep(50)], None)
        self.assert_index((ROW, [[[[]]]], {"a": {"b": ()}}), 1)

    def test_argument_by_name(self):
        self.assertEqual(require_resilience(value=(ROW,)), (ROW,))


class Fits(unittest.TestCase):
    def test_the_example(self):
        self.assertIs(fits((ROW, (0, 1, -1, 0)), (7, 2, 2)), True)

    def test_rows_just_met_and_just_missed(self):
        self.assertIs(fits((ROW,), (7, 2, 0)), True)
        self.assertIs(fits((ROW,), (6, 2, 0)), False)
        self.assertIs(fits(((0, 1, -1, 0),), (9, 2, 2)), True)
        self.assertIs(fits(((0, 1, -1, 0),), (9, 2, 3)), False)
        self.assertIs(fits(((0, 0, 1, 9),), (9, 0, 9)), True)
        self.assertIs(fits(((0, 0, 1, 9),), (9, 0, 8)), False)

    def test_more_liars_than_members(self):
        free = ((0, 0, 0, 0),)
        self.assertIs(fits(free, (3, 0, 3)), True)
        self.assertIs(fits(free, (3, 0, 4)), False)
        self.assertIs(fits(free, (0, 0, 0)), True)
        self.assertIs(fits(free, (0, 5, 1)), False)

    def test_each_row_counts(self):
        met, missed = (0, 0, 0, 0), (0, 0, 0, 1)
        for at in range(5):
            self.assertIs(fits((met,) * at + (missed,) + (met,) * (4 - at), (4, 1, 1)), False)
        self.assertIs(fits((met,) * 5, (4, 1, 1)), True)

    def test_against_the_words_of_the_document(self):
        rows = ((1, -3, 0, 1), (0, 1, -1, 0), (-2, 5, 9, 3), (-9, 9, 9, 9))
        for n, t, f in itertools.product(range(6), repeat=3):
            for row in rows:
                p, q, r, c = row
                expected = f <= n and n * p + t * q + f * r - c > -1
                self.assertIs(fits((row,), (n, t, f)), expected)

    def test_numbers_of_thirty_digits(self):
        self.assertIs(fits((ROW,), (3 * BIG + 1, BIG, BIG)), True)
        self.assertIs(fits((ROW,), (3 * BIG, BIG, BIG)), False)
        self.assertIs(fits(((0, 0, 0, 0),), (BIG, 0, BIG)), True)
        self.assertIs(fits(((0, 0, 0, 0),), (BIG, 0, BIG + 1)), False)

    def test_arguments_by_name(self):
        self.assertIs(fits(numbers=(6, 2, 2), resilience=(ROW,)), False)


class WithFactor(unittest.TestCase):
    def test_the_row_stands_behind(self):
        one = ((0, 1, -1, 0),)
        self.assertEqual(with_factor(one, 3), ((0, 1, -1, 0), (1, -3, 0, 1)))
        self.assertEqual(one, ((0, 1, -1, 0),))

    def test_factors_zero_to_nine(self):
        four = ((0, 1, -1, 0), ROW, (9, 9, 9, 9), (-9, -9, -9, 0))
        for rows in (four[:1], four):
            for m in range(10):
                found = with_factor(rows, m)
                self.assertEqual(found, rows + ((1, -m, 0, 1),))
                self.assertIs(require_resilience(found), found)

    def test_it_says_what_the_factor_says(self):
        for m in (0, 9):
            rows = with_factor(((0, 0, 0, 0),), m)
            for n, t in itertools.product(range(30), range(4)):
                self.assertIs(fits(rows, (n, t, 0)), n >= m * t + 1)

    def test_arguments_by_name(self):
        self.assertEqual(with_factor(m=2, resilience=(ROW,)), (ROW, (1, -2, 0, 1)))


if __name__ == "__main__":
    unittest.main()
