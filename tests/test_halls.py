"""Point 19: live halls."""

import copy
import random
import unittest

from enoughheard.errors import (CannotAct, CannotDeliver, InvalidNumbers, InvalidStarts, NothingDone,
                                Refused, UnknownMember)
from enoughheard.halls import Hall
from enoughheard.runs import behind_run
from tests import own
from tests.halling import Model, do, drawn_deed, drawn_hall, likely_deed
from tests.helpers import BIG, BROADCAST, ODD, is_plain, put

STARTS = (0, 0, 1)
# A kind sent on the way to 1, another on the way to 2; who hears both goes on to 3.
TWO = (4, 2, (0, 1), ((0, 1, (), (0,)), (1, 2, ((0, (0, 0, 1)),), (1,)),
                      (2, 3, ((0, (0, 1, 1)), (1, (0, 1, 1))), ())))


def hall_of(protocol=BROADCAST, numbers=(4, 1, 1), starts=STARTS):
    return Hall(protocol, numbers, starts)


def told(hall):
    """All that a hall tells of itself."""
    n, _, f = hall_numbers(hall)
    members = range(n - f)
    return (len(hall), hall.deeds(), hall.crowd(), hall.firsts(), hall.run(), hall.is_end(),
            [hall.location(member) for member in members],
            [hall.can_act(member) for member in members],
            [[hall.heard(member, kind) for kind in range(len(hall.crowd()[1]))] for member in members])


def hall_numbers(hall):
    """Numbers with as many right members as the hall has."""
    return sum(hall.firsts()), 0, 0


class Halling(unittest.TestCase):
    def assert_like(self, hall, model):
        """The hall tells what the model tells."""
        deeds = tuple(model.done)
        self.assertEqual(len(hall), len(deeds))
        self.assertEqual(hall.deeds(), deeds)
        self.assertEqual(hall.crowd(), model.crowd())
        self.assertEqual(hall.firsts(), model.firsts())
        self.assertEqual(hall.run(), model.run())
        self.assertIs(hall.is_end(), not own.urges(model.protocol, model.numbers, model.crowd()))
        self.assertTrue(is_plain((hall.deeds(), hall.crowd(), hall.firsts(), hall.run(), len(hall))))
        for member in range(model.right):
            self.assertEqual(hall.location(member), model.location(member))
            self.assertEqual(hall.can_act(member), model.can_act(member))
            for kind in range(model.protocol[1]):
                self.assertEqual(hall.heard(member, kind), len(model.heard_from(member, kind)))
        first = (model.firsts(), (0,) * model.protocol[1])
        self.assertEqual(behind_run(model.protocol, model.numbers, first, hall.run()), hall.crowd())

    def assert_refused(self, hall, deed, *error):
        """The deed raises the error, and nothing is changed."""
        before = told(hall)
        found = do(hall, deed)
        self.assertEqual(found[0], error[0])
        for value, right in zip(found[1:], error[1:]):
            self.assertIs(value, right)
        self.assertEqual(len(found), len(error))
        self.assertEqual(told(hall), before)


class Begin(Halling):
    def test_halls_begin(self):
        for numbers, starts in (((4, 1, 1), (0, 0, 1)), ((4, 1, 1), (1, 0, 0)), ((1, 0, 0), (1,)),
                                ((0, 0, 0), ()), ((3, 1, 3), ()), ((40, 13, 13), (0, 1, 0) * 9),
                                ((40, BIG, 40), ()), ((40, 0, 0), (1,) * 40)):
            for protocol in (BROADCAST, TWO):
                hall = Hall(protocol, numbers, starts)
                self.assert_like(hall, Model(protocol, numbers, starts))
                self.assertEqual((len(hall), hall.deeds(), hall.run()), (0, (), ()))

    def test_numbers_that_are_none(self):
        for numbers in ((41, 1, 1), (BIG, 1, 1), (4, 1, 5), (0, 0, 1), (-1, 0, 0), (4, -1, 1), (4, 1, -1),
                        (4, 1), (4, 1, 1, 1), (), [4, 1, 1], None, 4, "411", {}, (True, 0, 0),
                        (4, True, 1), (4, 1, True), (4, 1, False), ("4", 1, 1), (4, None, 1), (4, 1, (1,)),
                        ((4, 1, 1),), (4, 1, [1])) + ODD:
            for starts in (STARTS, (), None, (9,), [0]):
                with self.assertRaises(InvalidNumbers):
                    Hall(BROADCAST, numbers, starts)

    def test_starts_that_are_none(self):
        for starts in ((0, 0), (0, 0, 1, 1), (), [0, 0, 1], None, 3, "001", {0: 0, 1: 0, 2: 1}, True) + ODD:
            with self.assertRaises(InvalidStarts) as caught:
                Hall(BROADCAST, (4, 1, 1), starts)
            self.assertIsNone(caught.exception.index)
        for wrong in (2, 3, 4, -1, BIG, True, False, None, "0", (0,), [0], {}) + tuple(
                value for value in ODD if value != 0 or value is False):
            for at in range(3):
                for starts in (put(STARTS, at, wrong), put((wrong,) * 3, 0, wrong)[:3] if at == 0 else
                               STARTS[:at] + (wrong,) * (3 - at)):
                    with self.assertRaises(InvalidStarts) as caught:
                        Hall(BROADCAST, (4, 1, 1), starts)
                    self.assertEqual(caught.exception.index, at)
        self.assertRaises(InvalidStarts, lambda: Hall(BROADCAST, (0, 0, 0), (0,)))

    def test_by_names(self):
        hall = Hall(starts=STARTS, numbers=(4, 1, 1), protocol=BROADCAST)
        self.assertEqual(hall, hall_of())
        hall.act(rule=0, member=2)
        hall.deliver(kind=0, receiver=1, sender=2)
        hall.lie(receiver=0, kind=0, liar=3)
        self.assertEqual(hall.heard(kind=0, member=1), 1)
        self.assertEqual((hall.location(member=2), hall.can_act(member=0)), (2, ()))
        self.assertEqual(hall.deeds(), (("act", 2, 0), ("deliver", 2, 1, 0), ("lie", 3, 0, 0)))


class Deeds(Halling):
    def test_the_example(self):
        hall, model = hall_of(), Model(BROADCAST, (4, 1, 1), STARTS)
        for deed in (("act", 2, 0), ("deliver", 2, 0, 0), ("lie", 3, 0, 0), ("deliver", 2, 2, 0),
                     ("lie", 3, 1, 0), ("act", 0, 1), ("deliver", 0, 0, 0), ("deliver", 2, 0, 0),
                     ("lie", 3, 0, 0), ("act", 0, 3), ("lie", 3, 0, 0), ("deliver", 0, 1, 0),
                     ("act", 1, 1)):
            self.assertIsNone(do(hall, deed))
            model.done.append(deed)
            self.assert_like(hall, model)

    def test_each_refusal_of_act(self):
        hall = hall_of()
        for member in (-1, 3, 4, BIG) + ODD:
            for rule in (0, 4, None):
                self.assert_refused(hall, ("act", member, rule), "UnknownMember", member)
        for member, rule in ((0, 0), (0, 1), (0, 2), (2, 1), (2, 3), (0, 4), (0, -1), (0, BIG)):
            self.assert_refused(hall, ("act", member, rule), "CannotAct")
        for rule in ODD:
            self.assert_refused(hall, ("act", 2, rule), "CannotAct")
        self.assertIsNone(do(hall, ("act", 2, 0)))
        self.assert_refused(hall, ("act", 2, 0), "CannotAct")
        # One short of the bound, and then not.
        do(hall, ("deliver", 2, 0, 0))
        self.assert_refused(hall, ("act", 0, 1), "CannotAct")
        do(hall, ("lie", 3, 0, 0))
        self.assert_refused(hall, ("act", 0, 2), "CannotAct")
        self.assertIsNone(do(hall, ("act", 0, 1)))

    def test_each_refusal_of_deliver(self):
        hall = hall_of()
        do(hall, ("act", 2, 0))
        for wrong in (-1, 3, 4, BIG) + ODD:
            self.assert_refused(hall, ("deliver", wrong, 0, 0), "UnknownMember", wrong)
            self.assert_refused(hall, ("deliver", 2, wrong, 0), "UnknownMember", wrong)
            self.assert_refused(hall, ("deliver", wrong, 3, 9), "UnknownMember", wrong)
            self.assert_refused(hall, ("deliver", wrong, None, None), "UnknownMember", wrong)
        for kind in (-1, 1, 2, BIG) + ODD:
            self.assert_refused(hall, ("deliver", 2, 0, kind), "CannotDeliver")
        self.assert_refused(hall, ("deliver", 0, 2, 0), "CannotDeliver")
        self.assert_refused(hall, ("deliver", 0, 0, 0), "CannotDeliver")
        self.assertIsNone(do(hall, ("deliver", 2, 0, 0)))
        self.assert_refused(hall, ("deliver", 2, 0, 0), "CannotDeliver")
        self.assertIsNone(do(hall, ("deliver", 2, 2, 0)))
        self.assert_refused(hall, ("deliver", 2, 2, 0), "CannotDeliver")

    def test_each_refusal_of_lie(self):
        hall = hall_of()
        for wrong in (-1, 0, 2, 4, BIG) + ODD:
            self.assert_refused(hall, ("lie", wrong, 0, 0), "UnknownMember", wrong)
            self.assert_refused(hall, ("lie", wrong, 9, 9), "UnknownMember", wrong)
            self.assert_refused(hall, ("lie", wrong, None, None), "UnknownMember", wrong)
        for wrong in (-1, 3, 4, BIG) + ODD:
            self.assert_refused(hall, ("lie", 3, wrong, 0), "UnknownMember", wrong)
            self.assert_refused(hall, ("lie", 3, wrong, 9), "UnknownMember", wrong)
        for kind in (-1, 1, 2, BIG) + ODD:
            self.assert_refused(hall, ("lie", 3, 0, kind), "CannotDeliver")
        self.assertIsNone(do(hall, ("lie", 3, 0, 0)))
        self.assert_refused(hall, ("lie", 3, 0, 0), "CannotDeliver")
        self.assertIsNone(do(hall, ("lie", 3, 1, 0)))

    def test_no_kinds_and_no_rules(self):
        hall = Hall((2, 0, (0,), ()), (3, 1, 1), (0, 0))
        for kind in (0, 1) + ODD:
            self.assert_refused(hall, ("deliver", 0, 1, kind), "CannotDeliver")
            self.assert_refused(hall, ("lie", 2, 1, kind), "CannotDeliver")
            self.assertRaises(CannotDeliver, lambda: hall.heard(0, kind))
        self.assert_refused(hall, ("act", 0, 0), "CannotAct")
        self.assertEqual((hall.crowd(), hall.spread(), hall.is_end()), (((2, 0), ()), 0, True))

    def test_what_was_heard_is_forgotten_behind_an_act(self):
        hall = Hall(TWO, (4, 0, 1), (0, 0, 1))
        for deed in (("act", 0, 0), ("act", 1, 0), ("lie", 3, 0, 0), ("lie", 3, 0, 1),
                     ("deliver", 1, 0, 0), ("lie", 3, 1, 0)):
            self.assertIsNone(do(hall, deed))
        self.assertEqual((hall.heard(0, 0), hall.heard(0, 1), hall.heard(1, 0)), (2, 1, 1))
        self.assertIsNone(do(hall, ("act", 0, 1)))
        self.assertEqual((hall.heard(0, 0), hall.heard(0, 1), hall.heard(1, 0)), (0, 0, 1))
        # In the new stay all of it can be heard again, once, also what was sent long before.
        for deed in (("lie", 3, 0, 0), ("deliver", 1, 0, 0), ("deliver", 0, 0, 0), ("deliver", 0, 0, 1)):
            self.assertIsNone(do(hall, deed))
            self.assert_refused(hall, deed, "CannotDeliver")
        self.assertEqual((hall.heard(0, 0), hall.heard(0, 1)), (3, 1))
        self.assertEqual(hall.can_act(0), (2,))
        # What each of the others heard is its own.
        self.assertEqual((hall.heard(1, 0), hall.heard(2, 0)), (1, 0))

    def test_bounds_that_nobody_has_to_say(self):
        protocol = (3, 1, (0,), ((0, 1, ((0, (0, -1, 0)),), ()), (0, 2, ((0, (0, 0, 0)),), ())))
        hall = Hall(protocol, (3, 1, 1), (0, 0))
        self.assertEqual(hall.can_act(0), (0, 1))
        self.assertIsNone(do(hall, ("act", 0, 1)))
        self.assertEqual((hall.can_act(0), hall.is_end()), ((), False))

    def test_a_kind_once_sent_is_said_again(self):
        # Who came to 3 still has sent what it sent at first.
        hall = Hall(TWO, (2, 0, 0), (0, 0))
        for deed in (("act", 0, 0), ("deliver", 0, 0, 0), ("act", 0, 1), ("deliver", 0, 0, 0),
                     ("deliver", 0, 0, 1), ("act", 0, 2), ("deliver", 0, 1, 0), ("deliver", 0, 1, 1),
                     ("deliver", 0, 0, 0)):
            self.assertIsNone(do(hall, deed))
        self.assertEqual(hall.crowd(), ((1, 0, 0, 1), (1, 1)))


class Asked(Halling):
    def test_unknown_members(self):
        hall = hall_of()
        for value in (-1, 3, 4, BIG) + ODD:
            for ask in (hall.location, hall.can_act, lambda member: hall.heard(member, 0),
                        lambda member: hall.heard(member, 9), lambda member: hall.heard(member, None)):
                with self.assertRaises(UnknownMember) as caught:
                    ask(value)
                self.assertIs(caught.exception.value, value)

    def test_no_kind(self):
        hall = hall_of()
        for kind in (-1, 1, 2, BIG) + ODD:
            self.assertRaises(CannotDeliver, lambda: hall.heard(0, kind))

    def test_what_is_asked_changes_nothing(self):
        hall = hall_of()
        do(hall, ("act", 2, 0))
        before = told(hall)
        self.assertEqual(told(hall), before)
        hall.twin()
        self.assertEqual(hall == hall, True)
        self.assertEqual(told(hall), before)


class Spread(Halling):
    def test_in_the_order_told_as_single_deeds(self):
        hall = Hall(TWO, (4, 0, 1), (0, 1, 1))
        do(hall, ("act", 0, 0))
        self.assertEqual(hall.spread(), 3)
        self.assertEqual(hall.deeds()[1:], tuple(("deliver", 0, other, 0) for other in range(3)))
        self.assertEqual((hall.spread(), len(hall)), (0, 4))
        do(hall, ("act", 2, 1))
        do(hall, ("act", 0, 1))
        self.assertEqual(hall.spread(), 8)
        self.assertEqual(hall.deeds()[6:], (
            ("deliver", 0, 0, 0), ("deliver", 0, 0, 1), ("deliver", 0, 1, 1), ("deliver", 0, 2, 0),
            ("deliver", 0, 2, 1), ("deliver", 2, 0, 1), ("deliver", 2, 1, 1), ("deliver", 2, 2, 1)))
        self.assertEqual(hall.spread(), 0)

    def test_what_liars_say_is_not_spread(self):
        hall = hall_of()
        do(hall, ("lie", 3, 0, 0))
        self.assertEqual((hall.spread(), len(hall)), (0, 1))

    def test_each_can_be_undone(self):
        hall = hall_of()
        do(hall, ("act", 2, 0))
        do(hall, ("deliver", 2, 1, 0))
        self.assertEqual(hall.spread(), 2)
        hall.undo()
        self.assertEqual(hall.deeds(), (("act", 2, 0), ("deliver", 2, 1, 0), ("deliver", 2, 0, 0)))
        self.assertEqual(hall.spread(), 1)


class Twins(Halling):
    def test_equal_and_of_its_own(self):
        hall = hall_of()
        for deed in (("act", 2, 0), ("deliver", 2, 0, 0), ("lie", 3, 0, 0), ("act", 0, 1),
                     ("lie", 3, 0, 0)):
            do(hall, deed)
        twin = hall.twin()
        self.assertIsInstance(twin, Hall)
        self.assertIsNot(twin, hall)
        self.assertTrue(twin == hall and hall == twin and not twin != hall)
        self.assertEqual(told(twin), told(hall))
        before = told(twin)
        do(hall, ("lie", 3, 1, 0))
        self.assertEqual(told(twin), before)
        self.assertFalse(twin == hall)
        self.assertTrue(twin != hall)
        do(twin, ("lie", 3, 1, 0))
        self.assertTrue(twin == hall)
        before = told(hall)
        twin.spread()
        twin.undo()
        do(twin, ("lie", 3, 2, 0))
        self.assertEqual(told(hall), before)
        for _ in range(len(twin)):
            twin.undo()
        self.assertEqual(twin, hall_of())
        self.assertEqual(told(hall), before)

    def test_a_twin_undoes_what_an_act_had_forgotten(self):
        hall = hall_of()
        for deed in (("act", 2, 0), ("deliver", 2, 0, 0), ("lie", 3, 0, 0), ("act", 0, 1)):
            do(hall, deed)
        twin = hall.twin()
        twin.undo()
        self.assertEqual((twin.heard(0, 0), hall.heard(0, 0)), (2, 0))
        do(hall, ("lie", 3, 0, 0))
        hall.undo()
        hall.undo()
        self.assertEqual((twin, twin.heard(0, 0)), (hall, 2))

    def test_other_halls(self):
        hall = hall_of()
        self.assertTrue(hall == hall_of())
        for other in (hall_of(starts=(0, 1, 0)), hall_of(numbers=(4, 0, 1)), hall_of(numbers=(5, 1, 2)),
                      hall_of(protocol=put(BROADCAST, 1, 2)), hall_of(TWO)):
            self.assertFalse(hall == other)
            self.assertTrue(hall != other)
        # The same crowd and run by other deeds.
        one, other = hall_of(), hall_of()
        for deed in (("act", 2, 0), ("lie", 3, 0, 0)):
            do(one, deed)
        for deed in (("lie", 3, 0, 0), ("act", 2, 0)):
            do(other, deed)
        self.assertFalse(one == other)
        other.undo()
        self.assertFalse(one == other)

    def test_values_of_any_kind(self):
        hall = hall_of()
        for value in ODD + (hall.deeds(), STARTS, BROADCAST, Hall, 3, (BROADCAST, (4, 1, 1), STARTS)):
            self.assertIs(hall == value, False)
            self.assertIs(hall != value, True)
            self.assertIs(value == hall, False)


class Undo(Halling):
    def test_nothing_done(self):
        for hall in (hall_of(), Hall(TWO, (0, 0, 0), ())):
            self.assertRaises(NothingDone, hall.undo)
            self.assertEqual(len(hall), 0)

    def test_each_kind_of_deed(self):
        hall = hall_of()
        states = []
        for deed in (("act", 2, 0), ("deliver", 2, 0, 0), ("lie", 3, 0, 0), ("act", 0, 1),
                     ("deliver", 0, 0, 0), ("lie", 3, 0, 0), ("deliver", 2, 0, 0), ("act", 0, 3)):
            states.append(told(hall))
            do(hall, deed)
        for state in reversed(states):
            self.assertIsNone(hall.undo())
            self.assertEqual(told(hall), state)
        self.assertRaises(NothingDone, hall.undo)

    def test_what_is_undone_can_be_done_again(self):
        hall = hall_of()
        for deed in (("act", 2, 0), ("deliver", 2, 0, 0), ("lie", 3, 0, 0), ("act", 0, 1)):
            do(hall, deed)
            state = told(hall)
            hall.undo()
            self.assertIsNone(do(hall, deed))
            self.assertEqual(told(hall), state)
        hall.undo()
        # It still has heard what it heard.
        self.assert_refused(hall, ("deliver", 2, 0, 0), "CannotDeliver")
        self.assertEqual(hall.can_act(0), (1,))
        hall.undo()
        hall.undo()
        hall.undo()
        self.assert_refused(hall, ("deliver", 2, 0, 0), "CannotDeliver")
        self.assertIsNone(do(hall, ("act", 2, 0)))


class Many(Halling):
    def assert_many_refused(self, hall, deeds, index, reason):
        before = told(hall)
        same = hall
        with self.assertRaises(Refused) as caught:
            hall += deeds
        self.assertEqual((caught.exception.index, caught.exception.reason), (index, reason))
        self.assertIs(hall, same)
        self.assertEqual(told(hall), before)

    def test_all_in_place(self):
        hall = same = hall_of()
        deeds = (("act", 2, 0), ("deliver", 2, 0, 0), ("lie", 3, 0, 0), ("act", 0, 1))
        hall += ()
        self.assertIs(hall, same)
        self.assertEqual(len(hall), 0)
        hall += deeds
        self.assertIs(hall, same)
        self.assertEqual(hall.deeds(), deeds)
        hall += (("lie", 3, 0, 0),)
        self.assertEqual(hall.deeds(), deeds + (("lie", 3, 0, 0),))
        other = hall_of()
        other += hall.deeds()
        self.assertEqual((other, told(other)), (hall, told(hall)))
        self.assertIsNone(hall.undo())
        self.assertEqual(hall.deeds(), deeds)

    def test_what_is_no_tuple_of_deeds(self):
        hall = hall_of()
        right = ("act", 2, 0)
        for deeds in (None, 0, True, "act", [], [right], {}, {right: 1}, right, hall, (None,), ("act",),
                      ((),), (("act",),), (("act", 2),), (("act", 2, 0, 0),), (("deliver", 2, 0),),
                      (("deliver", 2, 0, 0, 0),), (("lie", 3, 0),), (("lie", 3, 0, 0, 0),),
                      (("acts", 2, 0),), ((0, 2, 0),), ((None, 2, 0),), (["act", 2, 0],), (right, None),
                      (right, list(right)), (right, ("spread",)), ((("act",), 2, 0),), (([], 2, 0),),
                      (({}, 2, 0),), (("ACT", 2, 0),), (("", 2, 0),), (("act", 9, 9), ("acts", 2, 0)),
                      (("undo", 1, 1),)):
            self.assert_many_refused(hall, deeds, -1, None)
        for value in ODD:
            if value != ():
                self.assert_many_refused(hall, value, -1, None)
                self.assert_many_refused(hall, (right, value), -1, None)
                self.assert_many_refused(hall, ((value, 2, 0),), -1, None)

    def test_the_first_that_raises_an_error(self):
        hall = hall_of()
        do(hall, ("act", 2, 0))
        do(hall, ("lie", 3, 1, 0))
        right = (("deliver", 2, 0, 0), ("lie", 3, 0, 0), ("act", 0, 1), ("deliver", 0, 1, 0))
        for wrong, reason in ((("act", 3, 0), "UnknownMember"), (("act", None, 0), "UnknownMember"),
                              (("act", 1, 9), "CannotAct"), (("act", 1, []), "CannotAct"),
                              (("act", 2, 0), "CannotAct"), (("deliver", 9, 0, 0), "UnknownMember"),
                              (("deliver", 2, {}, 0), "UnknownMember"),
                              (("deliver", 1, 0, 0), "CannotDeliver"),
                              (("deliver", 2, 0, True), "CannotDeliver"),
                              (("lie", 2, 0, 0), "UnknownMember"), (("lie", 3, 3, 0), "UnknownMember"),
                              (("lie", 3, 1, 0), "CannotDeliver"), (("lie", 3, 0, 7), "CannotDeliver")):
            for at in range(len(right) + 1):
                self.assert_many_refused(hall, right[:at] + (wrong,) + right[at:], at, reason)
                self.assert_many_refused(hall, right[:at] + (wrong, wrong), at, reason)
        hall += right
        self.assertEqual(len(hall), 6)

    def test_200_and_201(self):
        protocol = (2, 2, (0,), ((0, 1, (), (0, 1)),))
        hall = Hall(protocol, (40, 0, 3), (0,) * 37)
        lies = tuple(("lie", liar, receiver, kind) for receiver in range(37) for liar in (37, 38, 39)
                     for kind in (0, 1))
        self.assertEqual(len(lies), 222)
        self.assert_many_refused(hall, lies[:201], -1, None)
        hall += lies[:200]
        self.assertEqual(len(hall), 200)
        self.assert_many_refused(hall, lies[200:] + lies[:1], 22, "CannotDeliver")
        hall += lies[200:]
        self.assertEqual(hall.deeds(), lies)

    def test_nothing_that_is_passed_is_modified(self):
        hall = hall_of()
        for deeds in ([["act", 2, 0]], (["act", 2, [0]],), {"act": [2]}, (("act", 2, [0]),)):
            before = copy.deepcopy(deeds)
            self.assertRaises(Refused, hall.__iadd__, deeds)
            self.assertEqual(deeds, before)


class Drawn(Halling):
    def test_halls_by_the_model(self):
        refused = done = undone = 0
        for seed in range(120):
            protocol, numbers, starts = drawn_hall(seed)
            draw = random.Random(seed)
            hall, model = Hall(protocol, numbers, starts), Model(protocol, numbers, starts)
            for _ in range(30):
                roll = draw.random()
                if roll < 0.1 and model.done:
                    hall.undo()
                    model.done.pop()
                    undone = undone + 1
                elif roll < 0.15:
                    ahead = model.undelivered()
                    self.assertEqual(hall.spread(), len(ahead))
                    model.done.extend(ahead)
                else:
                    deed = drawn_deed(draw, protocol, numbers) if roll < 0.4 else likely_deed(draw, model)
                    right = model.refusal(deed)
                    self.assertEqual(do(hall, deed), right)
                    refused, done = refused + int(right is not None), done + int(right is None)
                    if right is None:
                        model.done.append(deed)
            self.assert_like(hall, model)
            self.assert_like(hall.twin(), model)
            self.assertEqual(hall.twin(), hall)
            other = Hall(protocol, numbers, starts)
            other += hall.deeds()[:200]
            self.assertEqual(other == hall, len(hall) <= 200)
        self.assertGreater(min(refused, done, undone), 100)

    def test_many_at_once_by_the_model(self):
        for seed in range(60):
            protocol, numbers, starts = drawn_hall(seed)
            draw = random.Random(seed)
            model = Model(protocol, numbers, starts)
            hall = Hall(protocol, numbers, starts)
            for _ in range(6):
                trial = Model(protocol, numbers, starts, model.done)
                deeds, reason = [], None
                for at in range(draw.randint(0, 8)):
                    deed = likely_deed(draw, trial)
                    deeds.append(deed)
                    reason = trial.refusal(deed)
                    if reason is not None:
                        break
                    trial.done.append(deed)
                if reason is None:
                    hall += tuple(deeds)
                    model = trial
                else:
                    with self.assertRaises(Refused) as caught:
                        hall += tuple(deeds)
                    self.assertEqual((caught.exception.index, caught.exception.reason),
                                     (len(deeds) - 1, reason[0]))
                self.assert_like(hall, model)


class Errors(Halling):
    def test_the_classes_that_are_raised(self):
        hall = hall_of()
        self.assertRaises(CannotAct, lambda: hall.act(0, 0))
        self.assertRaises(CannotDeliver, lambda: hall.deliver(0, 0, 0))
        self.assertRaises(UnknownMember, lambda: hall.lie(0, 0, 0))

    def test_arguments_are_not_modified(self):
        hall = hall_of()
        for value in ([0], {"a": [1]}, ([0], [1]), [[0]]):
            before = copy.deepcopy(value)
            for deed in (("act", value, 0), ("act", 2, value), ("deliver", value, 0, 0),
                         ("deliver", 2, value, 0), ("deliver", 2, 0, value), ("lie", value, 0, 0),
                         ("lie", 3, value, 0), ("lie", 3, 0, value)):
                self.assertIsNotNone(do(hall, deed))
            self.assertRaises((InvalidNumbers, InvalidStarts), lambda: Hall(BROADCAST, value, STARTS))
            self.assertRaises(InvalidStarts, lambda: Hall(BROADCAST, (4, 1, 1), value))
            self.assertEqual(value, before)


if __name__ == "__main__":
    unittest.main()
