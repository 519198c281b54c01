"""Point 11: situations."""

import copy
import unittest

from enoughheard.errors import InvalidSituation
from enoughheard.situations import holds, occupied, require_situation
from tests import own
from tests.helpers import BIG, BROADCAST, NO_INTEGERS, NO_TUPLES, deep, is_plain, put

ROW = ((1, -9, 9, 0), (-1,), (3, -2, 0), 9)
GONE = ((0, 0, 0, 1), (0,), (0, 0, 0), 1)


def index_of(protocol, value):
    """The index that the error for a value tells."""
    try:
        require_situation(protocol, value)
    except InvalidSituation as error:
        return error.index
    raise AssertionError("nothing raised")


class RequireSituation(unittest.TestCase):
    def assert_valid(self, protocol, value):
        before = copy.deepcopy(value)
        self.assertIs(require_situation(protocol, value), value)
        self.assertEqual(value, before)

    def assert_index(self, value, index, protocol=BROADCAST):
        before = copy.deepcopy(value)
        self.assertEqual(index_of(protocol, value), index)
        self.assertEqual(value, before)

    def assert_no_row(self, row):
        """Wherever it stands, and whatever stands behind it."""
        self.assert_index((row,), 0)
        self.assert_index((ROW, row), 1)
        self.assert_index((GONE, ROW, GONE, row), 3)
        self.assert_index((ROW, row, None, row), 1)
        self.assert_index((row, ROW, ROW, ROW), 0)

    def test_one_and_four_rows_are_returned_as_passed(self):
        for many in range(1, 5):
            self.assert_valid(BROADCAST, (ROW, GONE, ROW, GONE)[:many])

    def test_protocols_of_other_sizes(self):
        self.assert_valid((1, 0, (0,), ()), (((0,), (), (0, 0, 0), 0),))
        self.assert_valid((5, 2, (0,), ()), (((9,) * 5, (-9, 9), (9, -9, 9), 9),))
        self.assert_index((((0, 0), (), (0, 0, 0), 0),), 0, (1, 0, (0,), ()))
        self.assert_index((((0,), (0,), (0, 0, 0), 0),), 0, (1, 0, (0,), ()))

    def test_the_edges_of_integers(self):
        for edge in (-9, 9, 0):
            self.assert_valid(BROADCAST, (((edge,) * 4, (edge,), (edge,) * 3, 0),))
        for constant in (0, 9):
            self.assert_valid(BROADCAST, (put(ROW, 3, constant),))

    def test_no_tuple_of_one_to_four(self):
        for value in NO_TUPLES + ((), (ROW,) * 5, [ROW], {0: ROW}, (None,) * 5):
            self.assert_index(value, None)

    def test_a_row_of_another_form(self):
        for row in NO_TUPLES + ((), ROW[:3], ROW + (0,), list(ROW)):
            self.assert_no_row(row)

    def test_counts_said_and_numbers_of_another_length(self):
        for at, right in enumerate(ROW[:3]):
            for wrong in NO_TUPLES + ((), right[:-1], right + (0,), list(right), right[0]):
                self.assert_no_row(put(ROW, at, wrong))

    def test_parts_that_are_no_integers_from_minus_9_to_9(self):
        for at, right in enumerate(ROW[:3]):
            for place in range(len(right)):
                for wrong in NO_INTEGERS + (-10, 10, BIG, -BIG):
                    self.assert_no_row(put(ROW, at, put(right, place, wrong)))

    def test_the_constant(self):
        for wrong in NO_INTEGERS + (-1, 10, BIG, -BIG):
            self.assert_no_row(put(ROW, 3, wrong))

    def test_values_of_any_depth(self):
        value = deep(5000)
        self.assertEqual(index_of(BROADCAST, value), 0)
        self.assertEqual(index_of(BROADCAST, (ROW, value)), 1)
        for at in range(4):
            self.assertEqual(index_of(BROADCAST, (ROW, put(ROW, at, value))), 1)
        for at in range(3):
            row = put(ROW, at, put(ROW[at], 0, value))
            self.assertEqual(index_of(BROADCAST, (ROW, ROW, row)), 2)


class Occupied(unittest.TestCase):
    def test_the_example(self):
        self.assertEqual(occupied(BROADCAST, (3,)), (GONE,))

    def test_several_locations(self):
        self.assertEqual(occupied(BROADCAST, (0, 3)), (((1, 0, 0, 0), (0,), (0, 0, 0), 1), GONE))
        self.assertEqual(occupied(BROADCAST, (0, 1, 2, 3)), tuple(
            (tuple(int(at == place) for at in range(4)), (0,), (0, 0, 0), 1) for place in range(4)))

    def test_protocols_of_all_sizes(self):
        for many in range(1, 6):
            for kinds in range(3):
                protocol = (many, kinds, (0,), ())
                for locations in {(0,), (many - 1,), tuple(range(max(0, many - 4), many))}:
                    found = occupied(protocol, locations)
                    self.assertEqual(found, tuple(
                        (put((0,) * many, place, 1), (0,) * kinds, (0, 0, 0), 1)
                        for place in locations))
                    self.assertIs(require_situation(protocol, found), found)
                    self.assertTrue(is_plain(found))

    def test_when_it_holds(self):
        for counts in ((1, 0, 0, 0), (0, 0, 0, 1), (1, 0, 0, 1), (5, 1, 1, 2), (0, 9, 9, 0)):
            for locations in ((0,), (3,), (0, 3), (1, 2), (0, 1, 2, 3)):
                self.assertIs(holds(occupied(BROADCAST, locations), (9, 0, 0), (counts, (0,))),
                              all(counts[place] > 0 for place in locations))


class Holds(unittest.TestCase):
    def test_just_met_and_just_missed(self):
        # 2 in 3, less 1 said, twice n less t less 3 f: 2 * 3 - 5 + 2 * 7 - 2 - 3 * 1 = 10
        row = ((0, 0, 0, 2), (-1,), (2, -1, -3), 9)
        crowd = ((1, 0, 2, 3), (5,))
        self.assertIs(holds((row,), (7, 2, 1), crowd), True)
        self.assertIs(holds((row,), (7, 3, 1), crowd), True)
        self.assertIs(holds((row,), (7, 4, 1), crowd), False)
        self.assertIs(holds((row,), (7, 2, 1), ((1, 0, 2, 3), (6,))), True)
        self.assertIs(holds((row,), (7, 2, 1), ((1, 0, 2, 3), (7,))), False)
        self.assertIs(holds((row,), (7, 2, 1), ((1, 0, 3, 2), (5,))), False)

    def test_each_part_of_a_row_counts(self):
        crowd, numbers = ((1, 2, 3, 4), (5, 6)), (7, 8, 9)
        amounts = (1, 2, 3, 4, 5, 6, 7, 8, 9)
        for at, amount in enumerate(amounts):
            for factor in (1, 9, -1):
                all_parts = put((0,) * 9, at, factor)
                row = (all_parts[:4], all_parts[4:6], all_parts[6:])
                for constant in range(10):
                    self.assertIs(holds((row + (constant,),), numbers, crowd),
                                  factor * amount >= constant)

    def test_all_rows_have_to_hold(self):
        crowd = ((1, 0, 0, 1), (0,))
        never = ((0, 0, 0, 0), (0,), (0, 0, 0), 1)
        always = ((0, 0, 0, 0), (0,), (0, 0, 0), 0)
        self.assertIs(holds((always,) * 4, (2, 0, 0), crowd), True)
        for at in range(4):
            self.assertIs(holds(put((always,) * 4, at, never), (2, 0, 0), crowd), False)

    def test_more_than_half_in_one(self):
        situation = (((0, 0, 0, 2), (0,), (-1, 0, 0), 1),)
        self.assertIs(holds(situation, (6, 0, 0), ((3, 0, 0, 3), (0,))), False)
        self.assertIs(holds(situation, (7, 0, 0), ((3, 0, 0, 4), (0,))), True)

    def test_numbers_of_thirty_digits(self):
        situation = (((0, 0, 0, 2), (0,), (-1, 0, 0), 1),)
        self.assertIs(holds(situation, (2 * BIG, 0, 0), ((BIG, 0, 0, BIG), (0,))), False)
        self.assertIs(holds(situation, (2 * BIG - 1, 0, 0), ((BIG, 0, 0, BIG), (0,))), True)

    def test_drawn_crowds(self):
        for seed, (protocol, numbers, firsts, run) in enumerate(own.drawn_cases(60)):
            many, kinds = protocol[:2]
            situation = tuple(
                (tuple((seed * 7 + at * 5 + place) % 5 - 2 for place in range(many)),
                 tuple((seed + at + kind) % 7 - 3 for kind in range(kinds)), (1, -seed % 4, -1), at)
                for at in range(seed % 4 + 1))
            for crowd in own.behind(protocol, numbers, own.first(protocol, firsts), run):
                self.assertIs(holds(situation, numbers, crowd),
                              own.in_situation(situation, numbers, crowd))


if __name__ == "__main__":
    unittest.main()
