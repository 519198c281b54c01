"""Points 9, 10 (the silent rows) and 11 (as far as situation_rows needs it): systems."""

import itertools
import random
import unittest

from enoughheard.orders import columns, parts_of
from enoughheard.runs import behind_run, run_order
from enoughheard.systems import (next_row, run_of, silent_rows, situation_rows, system,
                                 values_of)
from tests import own
from tests.helpers import BIG, BROADCAST, HIGH, LOW, THIRD, is_plain

GONE = ((0, 0, 0, 1), (0,), (0, 0, 0), 1)


def orders_of(protocol):
    """All orders of a protocol."""
    for many in range(len(own.conditions(protocol)) + 1):
        yield from itertools.permutations(own.conditions(protocol), many)


def drawn_situation(draw, protocol):
    rows = []
    for _ in range(draw.randint(1, 4)):
        parts = [tuple(draw.randint(-9, 9) for _ in range(many)) for many in (*protocol[:2], 3)]
        rows.append((*parts, draw.randint(0, 9)))
    return tuple(rows)


def told_by(protocol, order, values):
    """The numbers, first counts and run that values tell, and the crowd behind it."""
    told = dict(zip(own.names(protocol, order), values))
    firsts = tuple(told.get(("first", location), 0) for location in range(protocol[0]))
    run = [(part, protocol[3][name[2]][0], name[2]) for part in range(len(order) + 1)
           for name in told if name[0] == "take" and name[1] == part and told[name]]
    pairs = tuple((index, told[("take", part, index)]) for part, _, index in sorted(run))
    last = len(order)
    crowd = (tuple(own.count_after(protocol, told, place, last) for place in range(protocol[0])),
             tuple(own.said_after(protocol, told, kind, last) for kind in range(protocol[1])))
    return (told["n"], told["t"], told["f"]), firsts, pairs, crowd


class ByHand(unittest.TestCase):
    def test_the_order_without_conditions(self):
        # n, t, f, the starts 0 and 1, and rule 0 from 1 to 2.
        self.assertEqual(system(BROADCAST, THIRD, (1,), ()), (
            ((1, -3, 0, 0, 0, 0), 1),
            ((0, 1, -1, 0, 0, 0), 0),
            ((1, 0, -1, 0, 0, 0), 0),
            ((-1, 0, 1, 1, 1, 0), 0),
            ((1, 0, -1, -1, -1, 0), 0),
            ((0, 0, 0, 0, -1, 0), 0),
            ((0, 0, 0, 1, 0, 0), 0),
            ((0, 0, 0, 0, 1, -1), 0),
            ((0, 0, 0, 0, 0, 1), 0),
            ((0, 0, 0, 0, 0, 0), 0)))

    def test_one_condition(self):
        # n, t, f, starts 0 and 1, rule 0 in part 0, rules 0 and 1 in part 1.
        self.assertEqual(system(BROADCAST, ((2, -3, 4, 5),), (), (LOW,)), (
            ((2, -3, 4, 0, 0, 0, 0, 0), 5),
            ((1, 0, -1, 0, 0, 0, 0, 0), 0),
            ((-1, 0, 1, 1, 1, 0, 0, 0), 0),
            ((1, 0, -1, -1, -1, 0, 0, 0), 0),
            ((0, 0, 0, 1, 0, 0, 0, 0), 0),
            ((0, 0, 0, 0, 1, -1, 0, 0), 0),
            ((0, 0, 0, 0, 0, 1, 0, 0), 0),
            ((0, 0, 0, 0, 0, 0, 0, 0), 0),
            ((0, -1, 1, 0, 0, 1, 0, 0), 1),
            ((0, 0, 0, 1, 0, 0, 0, -1), 0),
            ((0, 0, 0, 0, 1, -1, -1, 0), 0),
            ((0, 0, 0, 0, 0, 1, 1, 1), 0),
            ((0, 0, 0, 0, 0, 0, 0, 0), 0)))

    def test_two_conditions(self):
        # Then rules 0 and 2 and 3 in part 1, all four in part 2.
        found = system(BROADCAST, ((1, 0, 0, 9),), (0,), (HIGH, LOW))
        self.assertEqual(len(found), 5 + 4 + 2 * 5)
        self.assertEqual(found[4], ((0, 0, 0, -1, 0, 0, 0, 0, 0, 0, 0, 0, 0), 0))
        self.assertEqual(found[9:], (
            ((-1, 1, 1, 0, 0, 1, 0, 0, 0, 0, 0, 0, 0), 0),
            ((0, 0, 0, 1, 0, 0, 0, -1, 0, 0, 0, 0, 0), 0),
            ((0, 0, 0, 0, 1, -1, -1, 0, 0, 0, 0, 0, 0), 0),
            ((0, 0, 0, 0, 0, 1, 1, 0, -1, 0, 0, 0, 0), 0),
            ((0, 0, 0, 0, 0, 0, 0, 1, 1, 0, 0, 0, 0), 0),
            ((0, -1, 1, 0, 0, 1, 1, 1, 0, 0, 0, 0, 0), 1),
            ((0, 0, 0, 1, 0, 0, 0, -1, 0, 0, -1, -1, 0), 0),
            ((0, 0, 0, 0, 1, -1, -1, 0, 0, -1, 0, 0, 0), 0),
            ((0, 0, 0, 0, 0, 1, 1, 0, -1, 1, 1, 0, -1), 0),
            ((0, 0, 0, 0, 0, 0, 0, 1, 1, 0, 0, 1, 1), 0)))

    def test_one_location_and_several_empty_starts(self):
        self.assertEqual(system((1, 0, (0,), ()), ((0, 0, 0, 0),), (), ()), (
            ((0, 0, 0, 0), 0), ((1, 0, -1, 0), 0), ((-1, 0, 1, 1), 0), ((1, 0, -1, -1), 0),
            ((0, 0, 0, 1), 0)))
        found = system((4, 0, (0, 1, 3), ()), ((0, 0, 0, 0),), (1, 3), ())
        self.assertEqual(found[4:6], (((0, 0, 0, 0, -1, 0), 0), ((0, 0, 0, 0, 0, -1), 0)))
        self.assertEqual(found[6:], (((0, 0, 0, 1, 0, 0), 0), ((0, 0, 0, 0, 1, 0), 0),
                                     ((0, 0, 0, 0, 0, 0), 0), ((0, 0, 0, 0, 0, 1), 0)))

    def test_one_to_five_rows_of_the_resilience(self):
        rows = ((1, -3, 0, 1), (0, 1, -1, 0), (-9, 9, 9, 9), (9, -9, -9, 0), (0, 0, 0, 0))
        for many in range(1, 6):
            found = system(BROADCAST, rows[:many], (), ())
            self.assertEqual(len(found), many + 3 + 4)
            for row, (p, q, r, c) in zip(found, rows[:many]):
                self.assertEqual(row, ((p, q, r, 0, 0, 0), c))
            self.assertEqual(found[many], ((1, 0, -1, 0, 0, 0), 0))

    def test_next_row(self):
        self.assertEqual(next_row(BROADCAST, (), LOW), ((0, -1, 1, 0, 0, 1), 1))
        self.assertEqual(next_row(BROADCAST, (), HIGH), ((-1, 1, 1, 0, 0, 1), 0))
        self.assertEqual(next_row(BROADCAST, (LOW,), HIGH), ((-1, 1, 1, 0, 0, 1, 1, 1), 0))
        self.assertEqual(next_row(BROADCAST, (HIGH,), LOW),
                         ((0, -1, 1, 0, 0, 1, 1, 1, 0), 1))

    def test_situation_rows(self):
        self.assertEqual(situation_rows(BROADCAST, (), (GONE,)), (((0, 0, 0, 0, 0, 0), 1),))
        self.assertEqual(situation_rows(BROADCAST, (HIGH,), (GONE,)),
                         (((0, 0, 0, 0, 0, 0, 0, 1, 1), 1),))
        rows = (((2, -3, 5, 7), (9,), (-1, 4, -9), 8), ((0, 0, 0, 0), (0,), (0, 0, 0), 0))
        self.assertEqual(situation_rows(BROADCAST, (LOW,), rows), (
            ((-1, 4, -9, 2, -3, 17, 17, 12), 8), ((0, 0, 0, 0, 0, 0, 0, 0), 0)))

    def test_silent_rows(self):
        self.assertEqual(silent_rows(BROADCAST, (), ()), (
            ((0, 0, 0, -1, 0, 0), 0), ((0, 0, 0, 0, -1, 1), 0), ((0, 0, 0, 0, 0, -1), 0)))
        self.assertEqual(silent_rows(BROADCAST, (), (LOW,)), (
            ((0, 1, 0, 0, 0, -1), 0), ((0, 0, 0, -1, 0, 0), 0), ((0, 0, 0, 0, -1, 1), 0),
            ((0, 0, 0, 0, 0, -1), 0)))
        self.assertEqual(silent_rows(BROADCAST, (), (HIGH,)), (
            ((1, -1, 0, 0, 0, -1), 1), ((0, 0, 0, -1, 0, 0), 0), ((0, 0, 0, 0, -1, 1), 0)))
        self.assertEqual(silent_rows(BROADCAST, (LOW,), (LOW, HIGH)), (
            ((0, 1, 0, 0, 0, -1, -1, -1), 0), ((1, -1, 0, 0, 0, -1, -1, -1), 1),
            ((0, 0, 0, 0, -1, 1, 1, 0), 0)))

    def test_silent_rows_without_rules(self):
        self.assertEqual(silent_rows((3, 1, (0, 2), ()), (), ()), ())


class Rows(unittest.TestCase):
    """All rows of drawn protocols, compared with what each row says."""

    PROTOCOLS = [own.drawn_protocol(seed, seed % 5) for seed in range(20)]
    RESILIENCES = (((1, -3, 0, 1),), THIRD, THIRD + ((0, 1, 0, 1), (-9, 9, -9, 9), (0, 0, 0, 0)))

    def test_systems(self):
        for protocol in self.PROTOCOLS:
            for at, order in enumerate(orders_of(protocol)):
                resilience = self.RESILIENCES[at % 3]
                for empty in ((), protocol[2][1:]):
                    found = system(protocol, resilience, empty, order)
                    sums = own.system_sums(protocol, resilience, empty, order)
                    self.assertEqual(found, own.as_rows(protocol, order, sums))
                    self.assertTrue(is_plain(found))

    def test_next_rows(self):
        for protocol in self.PROTOCOLS:
            for order in orders_of(protocol):
                for condition in own.conditions(protocol):
                    if condition not in order:
                        found = next_row(protocol, order, condition)
                        row = own.hearing(protocol, condition, len(order))
                        self.assertEqual((found,), own.as_rows(protocol, order, [row]))
                        self.assertTrue(is_plain(found))

    def test_silent_rows(self):
        for protocol in self.PROTOCOLS:
            sets = [silent for many in range(len(own.conditions(protocol)) + 1)
                    for silent in itertools.combinations(own.conditions(protocol), many)]
            for order in orders_of(protocol):
                for silent in sets:
                    found = silent_rows(protocol, order, silent)
                    sums = own.silent_sums(protocol, order, silent)
                    self.assertEqual(found, own.as_rows(protocol, order, sums))
                    self.assertTrue(is_plain(found))

    def test_situation_rows(self):
        draw = random.Random(1)
        for protocol in self.PROTOCOLS:
            for order in orders_of(protocol):
                situation = drawn_situation(draw, protocol)
                found = situation_rows(protocol, order, situation)
                sums = own.situation_sums(protocol, order, situation)
                self.assertEqual(found, own.as_rows(protocol, order, sums))
                self.assertTrue(is_plain(found))

    def test_an_order_with_a_condition_appended(self):
        for protocol in self.PROTOCOLS:
            for order in orders_of(protocol):
                for condition in own.conditions(protocol):
                    if condition in order:
                        continue
                    rows = system(protocol, THIRD, protocol[2][1:], order)
                    rows = rows + (next_row(protocol, order, condition),)
                    more = order + (condition,)
                    width = len(columns(protocol, order))
                    none = (0,) * (len(columns(protocol, more)) - width)
                    found = system(protocol, THIRD, protocol[2][1:], more)
                    self.assertEqual(columns(protocol, more)[:width], columns(protocol, order))
                    self.assertEqual(found[:len(rows)],
                                     tuple((row + none, constant) for row, constant in rows))
                    self.assertEqual(len(found), len(rows) + protocol[0])


class ValuesOf(unittest.TestCase):
    def test_by_hand(self):
        run = ((0, 1), (1, 2))
        self.assertEqual(values_of(BROADCAST, (4, 1, 1), (2, 1, 0, 0), run, (LOW,)),
                         (4, 1, 1, 2, 1, 1, 0, 2))
        self.assertEqual(values_of(BROADCAST, (4, 1, 1), (2, 1, 0, 0), (), ()), (4, 1, 1, 2, 1, 0))
        self.assertEqual(values_of(BROADCAST, (4, 1, 1), (1, 2, 0, 0), ((0, 1), (1, 1), (0, 1)),
                                   (LOW,)), (4, 1, 1, 1, 2, 1, 1, 1))

    def test_the_parts_are_those_of_parts_of(self):
        # Rule 0 could be taken in each part; the least beginnings put it into the last.
        self.assertEqual(values_of(BROADCAST, (5, 1, 2), (0, 3, 0, 0), ((0, 1), (0, 1), (0, 1)),
                                   (LOW, HIGH)),
                         (5, 1, 2, 0, 3, 0, 2, 0, 1, 0, 0, 0))

    def test_pairs_with_the_same_rule_are_added(self):
        run = ((0, 1), (1, 1), (1, 2), (3, 1), (3, 2))
        self.assertEqual(values_of(BROADCAST, (5, 1, 1), (3, 1, 0, 0), run, (LOW, HIGH)),
                         (5, 1, 1, 3, 1, 1, 0, 3, 0, 0, 0, 3))

    def test_starts_that_are_not_the_first_locations(self):
        protocol = (4, 1, (1, 3), ((1, 2, (), ()),))
        self.assertEqual(values_of(protocol, (6, 1, 1), (0, 2, 0, 3), ((0, 2),), ()),
                         (6, 1, 1, 2, 3, 2))

    def test_times_of_thirty_digits(self):
        numbers, firsts = (3 * BIG + 1, BIG, BIG), (BIG, BIG + 1, 0, 0)
        self.assertEqual(values_of(BROADCAST, numbers, firsts, ((0, BIG), (1, BIG)), (LOW, HIGH)),
                         numbers + (BIG, BIG + 1, BIG, 0, BIG, 0, 0, 0, 0))

    def test_drawn_runs(self):
        resilience = ((1, 0, 0, 4), (0, 0, 0, 0))
        for protocol, numbers, firsts, run in own.drawn_cases(80):
            empty = tuple(start for start in protocol[2] if firsts[start] == 0)
            crowd = own.first(protocol, firsts)
            for order in orders_of(protocol):
                parts = parts_of(protocol, numbers, crowd, run, order)
                if parts is None:
                    continue
                told = dict.fromkeys(own.names(protocol, order), 0)
                told.update({"n": numbers[0], "t": numbers[1], "f": numbers[2]})
                told.update({("first", start): firsts[start] for start in protocol[2]})
                for at, (index, times) in enumerate(run):
                    told[("take", sum(begin <= at for begin in parts), index)] += times
                found = values_of(protocol, numbers, firsts, run, order)
                self.assertEqual(found, tuple(told[name] for name in own.names(protocol, order)))
                self.assertTrue(is_plain(found))
                rows = system(protocol, resilience, empty, order)
                self.assertTrue(own.satisfied(rows, found))
                # Its own rows tell of the crowd behind the run what is so there.
                behind = own.behind(protocol, numbers, crowd, run)[-1]
                self.assertEqual(told_by(protocol, order, found)[3], behind)


class RunOf(unittest.TestCase):
    def assert_told(self, protocol, order, values):
        found = run_of(protocol, order, values)
        self.assertTrue(is_plain(found))
        numbers, firsts, run, crowd = told_by(protocol, order, values)
        self.assertEqual(found, (numbers, firsts, run))
        self.assertEqual(sum(firsts), numbers[0] - numbers[2])
        return crowd

    def test_by_hand(self):
        self.assertEqual(run_of(BROADCAST, (), (4, 1, 1, 2, 1, 0)), ((4, 1, 1), (2, 1, 0, 0), ()))
        self.assertEqual(run_of(BROADCAST, (LOW,), (4, 1, 1, 2, 1, 1, 0, 2)),
                         ((4, 1, 1), (2, 1, 0, 0), ((0, 1), (1, 2))))

    def test_pairs_by_source_and_index(self):
        # In part 1 rule 1 goes from 0 and rule 0 from 1.
        self.assertEqual(run_of(BROADCAST, (LOW,), (5, 1, 1, 2, 2, 1, 1, 2)),
                         ((5, 1, 1), (2, 2, 0, 0), ((0, 1), (1, 2), (0, 1))))
        protocol = (4, 0, (0,), ((2, 3, (), ()), (1, 2, (), ()), (1, 3, (), ()), (0, 1, (), ())))
        self.assertEqual(run_of(protocol, (), (9, 0, 0, 9, 3, 4, 5, 9)),
                         ((9, 0, 0), (9, 0, 0, 0), ((3, 9), (1, 4), (2, 5), (0, 3))))

    def test_part_by_part(self):
        self.assertEqual(run_of(BROADCAST, (LOW, HIGH), (9, 2, 1, 2, 6, 4, 1, 1, 1, 1, 0, 4)),
                         ((9, 2, 1), (2, 6, 0, 0), ((0, 4), (1, 1), (0, 1), (1, 1), (0, 1), (3, 4))))

    def test_rules_taken_0_times_are_left_out(self):
        self.assertEqual(run_of(BROADCAST, (LOW, HIGH), (4, 1, 1, 2, 1, 1, 0, 1, 0, 0, 1, 0)),
                         ((4, 1, 1), (2, 1, 0, 0), ((0, 1), (1, 1), (2, 1))))

    def test_starts_that_are_not_the_first_locations(self):
        protocol = (4, 1, (1, 3), ((1, 2, (), ()),))
        self.assertEqual(run_of(protocol, (), (6, 1, 1, 2, 3, 2)),
                         ((6, 1, 1), (0, 2, 0, 3), ((0, 2),)))

    def test_drawn_runs_and_sums_and_multiples(self):
        draw = random.Random(2)
        seen = {}
        for protocol, numbers, firsts, run in own.drawn_cases(80):
            for order in orders_of(protocol):
                crowd = own.first(protocol, firsts)
                if parts_of(protocol, numbers, crowd, run, order) is None:
                    continue
                values = values_of(protocol, numbers, firsts, run, order)
                crowd = self.assert_told(protocol, order, values)
                self.check(protocol, order, run_of(protocol, order, values), crowd)
                seen.setdefault((protocol, order), []).append(values)
        for (protocol, order), each in seen.items():
            # More runs by the same protocol, so that sums are not mere multiples.
            for numbers in ((4, 1, 1), (7, 2, 2), (9, 1, 2)):
                firsts = draw.choice(list(own.all_firsts(protocol, numbers, ())))
                crowd = own.first(protocol, firsts)
                run = own.drawn_run(draw, protocol, numbers, crowd, 8)
                if parts_of(protocol, numbers, crowd, run, order) is not None:
                    each.append(values_of(protocol, numbers, firsts, run, order))
            values = tuple(sum(parts) for parts in zip(*each))
            self.check(protocol, order, run_of(protocol, order, values),
                       self.assert_told(protocol, order, values))
            for times in (2, 10 ** 9, 10 ** 20):
                self.assert_told(protocol, order, tuple(times * value for value in values))

    def check(self, protocol, order, found, crowd):
        """The run can be done, one member after the other, and leads to the crowd."""
        numbers, firsts, run = found
        start = own.first(protocol, firsts)
        crowds = own.behind(protocol, numbers, start, run)
        self.assertEqual(len(crowds), len(run) + 1)
        self.assertEqual(crowds[-1], crowd)
        self.assertIsNotNone(parts_of(protocol, numbers, start, run, order))

    def test_great_multiples_can_be_done(self):
        for protocol, numbers, firsts, run in own.drawn_cases(60):
            start = own.first(protocol, firsts)
            order = run_order(protocol, numbers, start, run)
            values = values_of(protocol, numbers, firsts, run, order)
            great = tuple(10 ** 20 * value for value in values)
            crowd = self.assert_told(protocol, order, great)
            numbers, firsts, run = run_of(protocol, order, great)
            start = own.first(protocol, firsts)
            self.assertEqual(behind_run(protocol, numbers, start, run), crowd)
            self.assertIsNotNone(parts_of(protocol, numbers, start, run, order))


if __name__ == "__main__":
    unittest.main()
