"""Point 12: solving."""

import random
import unittest

from enoughheard.solving import are_weights, satisfies, solved
from enoughheard.tableaus import Tableau
from tests import own
from tests.helpers import BIG, NO_INTEGERS, NO_TUPLES, deep, is_plain, put

# x - 2 y >= 3, y >= 1
TWO = (((1, -2), 3), ((0, 1), 1))
# x - y >= 2, 0 >= x, y >= 0
NEVER = (((1, -1), 2), ((-1, 0), 0), ((0, 1), 0))


def drawn_rows(draw, many, width, most, share, lean):
    """Rows with coefficients up to most, some of them 0; lean makes them rather above 0."""
    def coefficient():
        if draw.random() >= share:
            return 0
        return draw.randint(0 if draw.random() < lean else -most, most)

    return tuple((tuple(coefficient() for _ in range(width)),
                  draw.choice((0, 0, 1, draw.randint(0, 99)))) for _ in range(many))


def all_drawn():
    draw = random.Random(3)
    for many, width in ((1, 1), (1, 50), (60, 1), (2, 2), (3, 5), (8, 4), (20, 12), (30, 30)):
        for most in (1, 3, 99):
            for share in (0.2, 0.6, 1):
                for lean in (0, 0.3, 0.7):
                    for _ in range(3):
                        yield drawn_rows(draw, many, width, most, share, lean)
    for share in (0.1, 1):
        for lean in (0, 0.3, 0.6):
            yield drawn_rows(draw, 60, 50, 99, share, lean)


class Satisfies(unittest.TestCase):
    def test_the_example(self):
        self.assertIs(satisfies((((1, -1), 2),), (3, 1)), True)

    def test_just_met_and_just_missed(self):
        self.assertIs(satisfies(TWO, (5, 1)), True)
        self.assertIs(satisfies(TWO, (4, 1)), False)
        self.assertIs(satisfies(TWO, (5, 0)), False)
        self.assertIs(satisfies(TWO, (6, 2)), False)
        self.assertIs(satisfies(TWO, (7, 2)), True)

    def test_any_row_can_be_missed(self):
        rows = (((0, 0), 0),) * 60
        self.assertIs(satisfies(rows, (0, 0)), True)
        for at in (0, 1, 30, 59):
            self.assertIs(satisfies(put(rows, at, ((1, 0), 1)), (0, 5)), False)
            self.assertIs(satisfies(put(rows, at, ((1, 0), 1)), (1, 0)), True)

    def test_0_everywhere(self):
        self.assertIs(satisfies((((1, -99), 0), ((-99, 1), 0)), (0, 0)), True)
        self.assertIs(satisfies((((1, -99), 0), ((-99, 1), 1)), (0, 0)), False)

    def test_one_column_and_fifty(self):
        self.assertIs(satisfies((((99,), 99),), (1,)), True)
        self.assertIs(satisfies((((99,), 99),), (0,)), False)
        self.assertIs(satisfies((((1,) * 50, 50),), (1,) * 50), True)
        self.assertIs(satisfies((((1,) * 50, 50),), (1,) * 49 + (0,)), False)

    def test_great_integers(self):
        self.assertIs(satisfies((((1, -1), 1),), (BIG + 1, BIG)), True)
        self.assertIs(satisfies((((1, -1), 1),), (BIG, BIG)), False)
        self.assertIs(satisfies((((99, -98), 99),), (98 * BIG + 1, 99 * BIG)), True)
        self.assertIs(satisfies((((99, -98), 99),), (98 * BIG, 99 * BIG)), False)

    def test_another_length(self):
        free = (((0, 0), 0),)
        self.assertIs(satisfies(free, (0, 0)), True)
        for value in ((), (0,), (0, 0, 0)):
            self.assertIs(satisfies(free, value), False)
        self.assertIs(satisfies(TWO, (5, 1, 0)), False)
        self.assertIs(satisfies(TWO, (5,)), False)

    def test_values_that_are_none(self):
        free = (((0, 0), 0), ((1, 1), 0))
        for value in NO_TUPLES + ([0, 0], [5, 1], {0: 0, 1: 0}, "00", ((0, 0),)):
            self.assertIs(satisfies(free, value), False)
        for part in NO_INTEGERS + (-1, -BIG):
            self.assertIs(satisfies(free, (part, 5)), False)
            self.assertIs(satisfies(free, (5, part)), False)
        self.assertIs(satisfies(free, deep(5000)), False)
        self.assertIs(satisfies(free, (0, deep(5000))), False)
        self.assertIs(satisfies((((0,), 0),), deep(5000)), False)


class AreWeights(unittest.TestCase):
    def test_the_example(self):
        self.assertIs(are_weights(NEVER, (1, 1, 0)), True)

    def test_sums_of_columns_just_0(self):
        rows = (((2, -3), 1), ((-1, 1), 0), ((0, 1), 0))
        self.assertIs(are_weights(rows, (1, 2, 0)), True)
        self.assertIs(are_weights(rows, (1, 2, 1)), True)
        self.assertIs(are_weights(rows, (1, 2, 2)), False)
        self.assertIs(are_weights(rows, (1, 1, 0)), False)
        self.assertIs(are_weights(rows, (1, 3, 0)), True)
        self.assertIs(are_weights(rows, (1, 4, 0)), False)

    def test_the_sum_of_constants(self):
        rows = (((-1,), 0), ((-1,), 1), ((0,), 99))
        self.assertIs(are_weights(rows, (1, 0, 0)), False)
        self.assertIs(are_weights(rows, (BIG, 0, 0)), False)
        self.assertIs(are_weights(rows, (0, 1, 0)), True)
        self.assertIs(are_weights(rows, (0, 0, 1)), True)

    def test_0_alone(self):
        self.assertIs(are_weights(NEVER, (0, 0, 0)), False)
        self.assertIs(are_weights((((0,), 0),), (0,)), False)

    def test_great_ones(self):
        rows = (((99, -1), 1), ((-98, 0), 0), ((0, 0), 0))
        self.assertIs(are_weights(rows, (98 * BIG, 99 * BIG, BIG)), True)
        self.assertIs(are_weights(rows, (98 * BIG + 1, 99 * BIG, BIG)), False)
        self.assertIs(are_weights(rows, (98 * BIG, 99 * BIG - 1, BIG)), False)

    def test_another_length(self):
        self.assertIs(are_weights(NEVER, (1, 1)), False)
        self.assertIs(are_weights(NEVER, (1, 1, 0, 0)), False)
        self.assertIs(are_weights(NEVER, ()), False)
        self.assertIs(are_weights((((-1, -1), 1),), (1,)), True)
        self.assertIs(are_weights((((-1, -1), 1),), (1, 0)), False)

    def test_values_that_are_none(self):
        rows = (((-1,), 9), ((-1,), 9))
        self.assertIs(are_weights(rows, (5, 0)), True)
        for value in NO_TUPLES + ([5, 5], {0: 5, 1: 5}, "55", ((5, 5),), (5, 5.0)):
            self.assertIs(are_weights(rows, value), False)
        for part in NO_INTEGERS + (-1, -BIG):
            self.assertIs(are_weights(rows, (part, 5)), False)
            self.assertIs(are_weights(rows, (5, part)), False)
        self.assertIs(are_weights(rows, deep(5000)), False)
        self.assertIs(are_weights(rows, (5, deep(5000))), False)
        self.assertIs(are_weights(rows[:1], deep(5000)), False)


class Solved(unittest.TestCase):
    def assert_solved(self, rows, word=None):
        found = solved(rows)
        self.assertTrue(is_plain(found))
        self.assertEqual(len(found), 2)
        self.assertEqual(found, solved(rows))
        numbers = found[0] == "numbers"
        if numbers:
            self.assertTrue(all(part >= 0 for part in found[1]))
            self.assertEqual(len(found[1]), len(rows[0][0]))
            self.assertTrue(own.satisfied(rows, found[1]))
        else:
            self.assertEqual(found[0], "weights")
            self.assertTrue(own.weighs(rows, found[1]))
        self.assertIs(satisfies(rows, found[1]), numbers)
        self.assertIs(are_weights(rows, found[1]), not numbers)
        if word is not None:
            self.assertEqual(found[0], word)

    def test_the_example(self):
        self.assert_solved(NEVER, "weights")

    def test_rows_that_integers_satisfy(self):
        self.assert_solved(TWO, "numbers")
        self.assert_solved(NEVER[:1], "numbers")
        self.assert_solved((((1, -1), 0), ((-1, 1), 0), ((1, 1), 99)), "numbers")

    def test_two_rows_that_contradict_one_another(self):
        self.assert_solved((((1, -1), 1), ((-1, 1), 0)), "weights")
        self.assert_solved((((1, -1), 0), ((1, 0), 5), ((-1, 1), 1)), "weights")
        self.assert_solved((((3, -2), 1), ((-2, 1), 1)), "weights")
        self.assert_solved((((2, -3), 1), ((-1, 2), 1)), "numbers")

    def test_one_row_that_cannot_be(self):
        self.assert_solved((((0, 0), 1),), "weights")
        self.assert_solved((((-1, -99), 1),), "weights")
        self.assert_solved((((0, 0), 0), ((5, 5), 0), ((-3, 0), 7)), "weights")

    def test_many_rows_that_contradict_at_once(self):
        for many in (2, 3, 10, 40):
            # Each is more than the next one, the last one as much as the first or more.
            rows = [put(put((0,) * many, at, 1), at + 1, -1) for at in range(many - 1)]
            rows.append(put(put((0,) * many, 0, -1), many - 1, 1))
            for more in range(many):
                constants = put((0,) * many, more, 1)
                cycle = tuple(zip(rows, constants))
                self.assert_solved(cycle, "weights")
                self.assert_solved(cycle[:more] + cycle[more + 1:], "numbers")
            self.assert_solved(tuple((row, 0) for row in rows), "numbers")

    def test_only_great_integers(self):
        # Each is at least 99 times the one ahead.
        rows = [((1,) + (0,) * 9, 99)]
        for at in range(9):
            rows.append((put(put((0,) * 10, at, -99), at + 1, 1), 0))
        self.assert_solved(tuple(rows), "numbers")
        self.assertGreaterEqual(solved(tuple(rows))[1][9], 99 ** 10)
        self.assert_solved(tuple(rows) + ((put((0,) * 10, 9, -1), 1),), "weights")

    def test_a_common_denominator(self):
        # The only answers are multiples of 1/2, 1/3, 1/7.
        rows = (((2, 0, 0, -1), 0), ((-2, 0, 0, 1), 0), ((0, 3, 0, -1), 0), ((0, -3, 0, 1), 0),
                ((0, 0, 7, -1), 0), ((0, 0, -7, 1), 0), ((0, 0, 0, 1), 1))
        self.assert_solved(rows, "numbers")
        self.assertEqual(solved(rows)[1][3] % 42, 0)
        self.assert_solved((((97, -89), 1), ((-97, 90), 0)), "numbers")

    def test_all_constants_0(self):
        draw = random.Random(4)
        for many, width in ((1, 1), (60, 50), (10, 10)):
            rows = tuple((row, 0) for row, _ in drawn_rows(draw, many, width, 99, 1, 0))
            self.assert_solved(rows, "numbers")

    def test_one_column_and_one_row(self):
        self.assert_solved((((1,), 99),), "numbers")
        self.assert_solved((((0,), 1),), "weights")
        self.assert_solved((((7,), 99), ((-7,), 0)), "weights")
        self.assert_solved((((7,), 99),) * 60, "numbers")
        self.assert_solved((((7,), 99),) * 59 + (((-1,), 1),), "weights")
        self.assert_solved((((0,) * 49 + (1,), 99),), "numbers")
        self.assert_solved((((-1,) * 49 + (1,), 99),), "numbers")
        self.assert_solved((((-1,) * 50, 99),), "weights")

    def test_equal_rows(self):
        self.assert_solved((NEVER[0],) * 60, "numbers")
        self.assert_solved(NEVER * 20, "weights")

    def test_drawn_rows(self):
        words = []
        for rows in all_drawn():
            self.assert_solved(rows)
            words.append(solved(rows)[0])
        self.assertGreater(words.count("numbers"), 100)
        self.assertGreater(words.count("weights"), 100)

    def test_small_rows_by_trying_all_integers(self):
        draw = random.Random(5)
        for _ in range(300):
            rows = drawn_rows(draw, draw.randint(1, 4), 2, 3, 0.8, 0.2)
            rows = tuple((row, min(constant, 3)) for row, constant in rows)
            if any(own.satisfied(rows, (x, y)) for x in range(40) for y in range(40)):
                self.assert_solved(rows, "numbers")
            else:
                self.assert_solved(rows, "weights")


class Exchanges(unittest.TestCase):
    """The way by which a tableau settles once it has tried the quick one for long."""

    def test_the_least_names_settle_as_well(self):
        for at, rows in enumerate(all_drawn()):
            tableau = Tableau()
            tableau.widen(len(rows[0][0]))
            for row in rows:
                tableau.add_row(row)
            tableau.settle(patience=(0, 2)[at % 2])
            if tableau.clash is None:
                self.assertTrue(own.satisfied(rows, tableau.numbers()))
            else:
                self.assertTrue(own.weighs(rows, tableau.weights()))

    def test_which_line_is_taken(self):
        # Lines 1, 2, .. are those of the rows, and later rows have lesser names.
        for constants, most in (((0, 0), None), ((5, 4), 1), ((4, 5), 2), ((0, 5), 2), ((5, 0), 1)):
            tableau = Tableau()
            tableau.widen(2)
            tableau.add_row(((1, 0), constants[0]))
            tableau.add_row(((0, 1), constants[1]))
            self.assertEqual(tableau.most_lacking(), most)
            least = [at + 1 for at in (0, 1) if constants[at] > 0]
            self.assertEqual(tableau.first_lacking(), max(least, default=None))

    def test_amounts_are_compared_by_their_scales(self):
        tableau = Tableau()
        tableau.widen(2)
        tableau.add_row(((7, 0), 7 * 7 + 1))
        tableau.settle()
        # x is 50 / 7 now: what the first of these lacks is 20 / 7, the second 3.
        tableau.add_row(((1, -1), 10))
        tableau.add_row(((0, 1), 3))
        self.assertEqual(tableau.most_lacking(), 3)

    def test_rows_and_columns_added_later(self):
        draw = random.Random(6)
        for _ in range(200):
            first = drawn_rows(draw, 5, 6, 5, 0.7, 0.5)
            more = drawn_rows(draw, 5, 9, 5, 0.7, 0.3)
            tableau = Tableau()
            tableau.widen(6)
            for row in first:
                tableau.add_row(row)
            tableau.settle()
            before = tableau.copied()
            tableau.widen(9)
            for row in more:
                tableau.add_row(row)
            tableau.settle()
            for told, rows in ((before, first),
                               (tableau, tuple((row + (0,) * 3, c) for row, c in first) + more)):
                if told.clash is None:
                    self.assertTrue(own.satisfied(rows, told.numbers()))
                else:
                    self.assertTrue(own.weighs(rows, told.weights()))
            self.assertEqual(tableau.clash is None,
                             solved(tuple((row + (0,) * 3, c) for row, c in first) + more)[0]
                             == "numbers")


if __name__ == "__main__":
    unittest.main()
