"""Point 20: replays."""

import copy
import unittest

from enoughheard.halls import Hall
from enoughheard.replays import replayed
from enoughheard.runs import behind_run
from tests import own
from tests.halling import Model, do
from tests.helpers import BROADCAST, is_plain, put


def own_deeds(protocol, numbers, firsts, run):
    """The starts and the deeds of the replay, by the model of the tests."""
    starts = tuple(place for place, count in enumerate(firsts) for _ in range(count))
    model = Model(protocol, numbers, starts)
    n, _, f = numbers
    for rule, many in run:
        source, _, conditions, _ = protocol[3][rule]
        for _ in range(many):
            member = [one for one in range(n - f) if model.location(one) == source][0]
            for kind, bound in sorted(conditions):
                for other in range(n):
                    heard = model.heard_from(member, kind)
                    if len(heard) >= own.value(bound, numbers) or other in heard:
                        continue
                    if other >= n - f:
                        model.done.append(("lie", other, member, kind))
                    elif model.has_sent(other, kind):
                        model.done.append(("deliver", other, member, kind))
            model.done.append(("act", member, rule))
    return starts, tuple(model.done)


class Replays(unittest.TestCase):
    def assert_replayed(self, protocol, numbers, firsts, run, deeds=None):
        passed = (protocol, numbers, firsts, run)
        before = copy.deepcopy(passed)
        hall = replayed(*passed)
        self.assertIsInstance(hall, Hall)
        self.assertEqual(passed, before)
        starts, right = own_deeds(*passed)
        self.assertEqual(hall.deeds(), right)
        self.assertTrue(is_plain(hall.deeds()))
        if deeds is not None:
            self.assertEqual(hall.deeds(), deeds)
        self.assertEqual(hall.firsts(), firsts)
        self.assertEqual(hall.run(), tuple((rule, 1) for rule, many in run for _ in range(many)))
        crowd = (firsts, (0,) * protocol[1])
        self.assertEqual(hall.crowd(), behind_run(protocol, numbers, crowd, run))
        # The same deeds in a hall whose starts ascend.
        other = Hall(protocol, numbers, starts)
        for deed in right:
            self.assertIsNone(do(other, deed))
        self.assertTrue(hall == other)
        self.assertEqual(replayed(*passed), hall)
        return hall

    def test_the_example_deed_by_deed(self):
        self.assert_replayed(BROADCAST, (4, 1, 1), (2, 1, 0, 0), ((0, 1), (1, 2)), (
            ("act", 2, 0), ("deliver", 2, 0, 0), ("lie", 3, 0, 0), ("act", 0, 1),
            ("deliver", 0, 1, 0), ("deliver", 2, 1, 0), ("act", 1, 1)))

    def test_no_pairs_and_no_members(self):
        hall = self.assert_replayed(BROADCAST, (4, 1, 1), (1, 2, 0, 0), (), ())
        self.assertEqual([hall.location(member) for member in range(3)], [0, 1, 1])
        hall = self.assert_replayed(BROADCAST, (0, 0, 0), (0, 0, 0, 0), (), ())
        self.assertEqual(hall.crowd(), ((0, 0, 0, 0), (0,)))
        self.assert_replayed(BROADCAST, (3, 1, 3), (0, 0, 0, 0), (), ())
        self.assertEqual(replayed(BROADCAST, (3, 1, 3), (0,) * 4, ()), Hall(BROADCAST, (3, 1, 3), ()))

    def test_liars_that_are_not_needed(self):
        self.assert_replayed(BROADCAST, (4, 1, 1), (1, 2, 0, 0), ((0, 2), (1, 1), (3, 1)), (
            ("act", 1, 0), ("act", 2, 0), ("deliver", 1, 0, 0), ("deliver", 2, 0, 0), ("act", 0, 1),
            ("deliver", 0, 0, 0), ("deliver", 1, 0, 0), ("deliver", 2, 0, 0), ("act", 0, 3)))

    def test_liars_alone_and_ascending(self):
        protocol = (2, 1, (0,), ((0, 1, ((0, (0, 1, 1)),), (0,)),))
        self.assert_replayed(protocol, (6, 1, 3), (3, 0), ((0, 2),), (
            ("lie", 3, 0, 0), ("lie", 4, 0, 0), ("act", 0, 0),
            ("deliver", 0, 1, 0), ("lie", 3, 1, 0), ("act", 1, 0)))

    def test_a_pair_taken_several_times(self):
        self.assert_replayed(BROADCAST, (7, 2, 2), (0, 5, 0, 0), ((0, 5), (3, 5)))
        self.assert_replayed(BROADCAST, (7, 2, 2), (0, 5, 0, 0), ((0, 4), (3, 1), (0, 1), (3, 4)))
        self.assert_replayed(BROADCAST, (7, 2, 2), (4, 1, 0, 0), ((0, 1), (1, 2), (2, 1), (1, 1), (3, 4)))

    def test_conditions_of_two_kinds(self):
        both = ((0, (0, 1, 1)), (1, (0, 0, 1)))
        protocol = (3, 2, (0, 1), ((0, 1, (), (1,)), (1, 2, both, (0,))))
        self.assert_replayed(protocol, (5, 1, 2), (1, 2, 0), ((1, 1), (0, 1), (1, 2)), (
            ("lie", 3, 1, 0), ("lie", 4, 1, 0), ("lie", 3, 1, 1), ("act", 1, 1), ("act", 0, 0),
            ("deliver", 1, 0, 0), ("lie", 3, 0, 0), ("deliver", 0, 0, 1), ("act", 0, 1),
            ("deliver", 0, 2, 0), ("deliver", 1, 2, 0), ("deliver", 0, 2, 1), ("act", 2, 1)))

    def test_two_bounds_of_one_kind(self):
        # What was heard for the first condition counts for the second one, too.
        for first, second in (((0, 0, 1), (0, 1, 1)), ((0, 1, 0), (1, -1, 0)), ((-1, 2, 0), (0, 2, 0))):
            protocol = (3, 1, (0, 1), ((0, 1, (), (0,)), (1, 2, tuple(sorted(((0, first), (0, second)))), ())))
            self.assert_replayed(protocol, (5, 2, 2), (3, 0, 0), ((0, 3), (1, 3)))

    def test_what_was_heard_in_a_stay_before_is_heard_again(self):
        low = ((0, (0, 0, 1)),)
        protocol = (3, 1, (0,), ((0, 1, low, (0,)), (1, 2, low, ())))
        self.assert_replayed(protocol, (2, 0, 1), (1, 0, 0), ((0, 1), (1, 1)), (
            ("lie", 1, 0, 0), ("act", 0, 0), ("deliver", 0, 0, 0), ("act", 0, 1)))

    def test_bounds_below_0(self):
        protocol = (2, 1, (0,), ((0, 1, ((0, (0, -1, 0)),), ()),))
        self.assert_replayed(protocol, (3, 2, 1), (2, 0), ((0, 2),), (("act", 0, 0), ("act", 1, 0)))

    def test_forty_members(self):
        hall = self.assert_replayed(BROADCAST, (40, 13, 13), (20, 7, 0, 0), ((0, 7), (1, 20), (3, 27)))
        self.assertEqual(hall.crowd(), ((0, 0, 0, 27), (27,)))
        self.assert_replayed(BROADCAST, (40, 13, 0), (0, 40, 0, 0), ((0, 40),))

    def test_by_names(self):
        self.assertEqual(replayed(run=((0, 1),), firsts=(2, 1, 0, 0), numbers=(4, 1, 1),
                                  protocol=BROADCAST).deeds(), (("act", 2, 0),))

    def test_drawn_runs(self):
        lies = 0
        for protocol, numbers, firsts, run in own.drawn_cases(150):
            hall = self.assert_replayed(protocol, numbers, firsts, run)
            lies = lies + len([deed for deed in hall.deeds() if deed[0] == "lie"])
        self.assertGreater(lies, 50)

    def test_other_starts(self):
        protocol = put(BROADCAST, 2, (0, 1, 3))
        hall = self.assert_replayed(protocol, (6, 1, 1), (2, 1, 0, 2), ((0, 1),), (("act", 2, 0),))
        self.assertEqual([hall.location(member) for member in range(5)], [0, 0, 2, 3, 3])


if __name__ == "__main__":
    unittest.main()
