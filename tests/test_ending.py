"""Points 3 (the first guarantee, for ends_outside), 10 and 14, and the limits: ending."""

import unittest

from enoughheard.avoiding import avoids
from enoughheard.ending import ending_in, ending_tree, ends_outside
from enoughheard.situations import occupied
from tests import own
from tests.asking import IDLE, NONE_FIT, Asking, drawn_questions, silent_sets
from tests.helpers import BROADCAST, HIGH, LOW, THIRD


class Ending(Asking):
    word = "ends"
    functions = (ends_outside, ending_in, ending_tree)


class Broadcast(Ending):
    def test_none_is_left_behind_when_one_accepts(self):
        self.assert_answer((BROADCAST, THIRD, (), occupied(BROADCAST, (0, 3))), True)
        self.assert_answer((BROADCAST, THIRD, (), occupied(BROADCAST, (2, 3))), True)

    def test_all_may_accept_and_all_may_stay(self):
        self.assert_answer((BROADCAST, THIRD, (), occupied(BROADCAST, (3,))), False)
        self.assert_answer((BROADCAST, THIRD, (), occupied(BROADCAST, (0,))), False)
        self.assert_answer((BROADCAST, THIRD, (0,), occupied(BROADCAST, (0,))), True)

    def test_none_stays_where_nothing_is_waited_for(self):
        self.assert_answer((BROADCAST, THIRD, (), occupied(BROADCAST, (1,))), True)

    def test_too_many_liars(self):
        half = ((1, -2, 0, 1), (0, 1, -1, 0))
        self.assert_answer((BROADCAST, half, (), occupied(BROADCAST, (0, 3))), False)
        # Who all sent do not hear enough where n - t are more than the right ones.
        self.assert_answer((BROADCAST, ((0, 0, 1, 1), (1, -3, 0, 1)), (0,),
                            occupied(BROADCAST, (2,))), False)

    def test_situations_of_several_rows(self):
        # More than half have sent and are still behind.
        behind = (((0, 0, 0, 0), (2,), (-1, 0, 0), 1), ((1, 1, 1, 0), (0,), (0, 0, 0), 1))
        self.assert_answer((BROADCAST, THIRD, (), behind), True)
        few = (((0, 0, 0, 0), (1,), (0, 0, 0), 1), ((1, 1, 1, 0), (0,), (0, 0, 0), 1))
        self.assert_answer((BROADCAST, THIRD, (), few), False)

    def test_the_order_of_the_sets(self):
        self.assertEqual(silent_sets(BROADCAST), [(), (LOW,), (LOW, HIGH), (HIGH,)])
        tree = ending_tree(BROADCAST, THIRD, (), occupied(BROADCAST, (0, 3)))
        self.assertEqual(len(tree[0]), 4)

    def test_the_looks_up_to_a_run(self):
        # At the root with nobody in 0 or 1: (), then LOW, where all wait at 0.
        question = (BROADCAST, THIRD + ((1, 0, 0, 1),), (), occupied(BROADCAST, (0,)))
        self.assert_answer(question, False)
        self.assert_limit(question, 3)
        # Nobody at all: the first own system is satisfied.
        nobody = (((0, 0, 0, 0), (0,), (-1, 0, 0), 0),)
        question = (BROADCAST, ((0, 0, 0, 0),), (), nobody)
        self.assert_answer(question, False)
        self.assert_limit(question, 1)
        self.assertEqual(ending_in(*question), ((0, 0, 0), (0, 0, 0, 0), ()))


class Others(Ending):
    def test_no_conditions(self):
        protocol = (3, 1, (0,), ((0, 1, (), (0,)),))
        self.assert_answer((protocol, THIRD, (), occupied(protocol, (1,))), False)
        self.assert_answer((protocol, THIRD, (), occupied(protocol, (0,))), True)
        self.assert_answer((protocol, THIRD, (), occupied(protocol, (2,))), True)
        self.assert_limit((protocol, THIRD, (), occupied(protocol, (0,))), 1)
        tree = ending_tree(protocol, THIRD, (), occupied(protocol, (0,)))
        self.assertEqual((len(tree[0]), tree[1]), (1, ()))

    def test_no_rules(self):
        protocol = (2, 0, (0,), ())
        self.assert_answer((protocol, THIRD, (), occupied(protocol, (1,))), True)
        self.assert_answer((protocol, THIRD, (), occupied(protocol, (0,))), False)

    def test_two_conditions_of_one_rule(self):
        said, asked = (0, (0, 0, 1)), (1, (0, 0, 1))
        protocol = (3, 2, (0, 1), ((0, 2, (said, asked), ()), (1, 2, (), (0,))))
        # Who waits for both hears the second one from liars alone.
        self.assert_answer((protocol, THIRD, (), occupied(protocol, (0, 2))), False)
        both = (3, 2, (0, 1), ((0, 2, (said, asked), ()), (1, 2, (), (0, 1))))
        more = THIRD + ((0, 0, -1, 0),)
        self.assert_answer((both, more, (), occupied(both, (0, 2))), True)
        self.assert_answer((both, more, (), occupied(both, (0,))), False)

    def test_resiliences_that_no_numbers_fit(self):
        for resilience in NONE_FIT:
            for seed in range(10):
                protocol = own.drawn_protocol(seed, seed % 5)
                always = (((0,) * protocol[0], (0,) * protocol[1], (0, 0, 0), 0),)
                question = (protocol, resilience, (), always)
                self.assert_answer(question, True)
                self.assert_limit(question, 2 ** (seed % 5) + seed % 5)
                branches = ending_tree(*question)[1]
                self.assertEqual([word for word, _ in branches], ["barred"] * (seed % 5))

    def test_all_orders_open(self):
        question = (IDLE, THIRD, (), occupied(IDLE, (1,)))
        # 1 + 4 + 12 + 24 + 24 nodes, 16 sets at each, and a look at each branch to one.
        self.assertIs(ends_outside(*question), True)
        self.assert_limit(question, 1104)

    def test_empty_starts(self):
        protocol = (4, 0, (0, 1, 2), ((0, 3, (), ()), (1, 3, (), ())))
        for empty, place, so in (((), 0, True), ((), 3, False), ((0, 1), 3, True),
                                 ((1, 2), 3, False), ((0, 2), 3, False), ((2,), 2, True),
                                 ((0, 1), 2, False)):
            self.assert_answer((protocol, THIRD, empty, occupied(protocol, (place,))), so)

    def test_only_great_numbers(self):
        resilience = ((1, -9, 0, 9), (0, 1, -9, 9), (0, 0, 1, 9), (0, 1, -1, 0))
        question = (BROADCAST, resilience, (), occupied(BROADCAST, (3,)))
        self.assert_answer(question, False)
        self.assertGreater(ending_in(*question)[0][0], 700)


class Drawn(Ending):
    def test_drawn_questions(self):
        answers = []
        for at, question in enumerate(drawn_questions(120)):
            # With four conditions many systems are solved anew: some are enough.
            if at < 50 or len(own.conditions(question[0])) < 4:
                self.assert_answer(question)
            answers.append(ends_outside(*question))
            # Where they don't come, they don't end.
            if avoids(*question):
                self.assertIs(answers[-1], True)
        self.assertGreater(answers.count(True), 20)
        self.assertGreater(answers.count(False), 20)

    def test_small_crowds_by_trying_all_runs(self):
        many = [0, 0, 0]
        for question in drawn_questions(120):
            comes, ends = own.comes_into(*question, 4)
            if comes:
                many[0] = many[0] + 1
                self.assertIs(avoids(*question), False)
            if ends:
                many[1] = many[1] + 1
                self.assertIs(ends_outside(*question), False)
            # They come into it, but end outside.
            many[2] = many[2] + int(comes and ends_outside(*question))
        self.assertGreater(min(many), 5)

    def test_never_more_than_1104_with_four_conditions(self):
        for seed in range(30):
            protocol = own.drawn_protocol(seed, 4)
            for place in range(protocol[0]):
                question = (protocol, THIRD, (), occupied(protocol, (place,)))
                self.assertEqual(ends_outside(*question, tries=1104), ends_outside(*question))


if __name__ == "__main__":
    unittest.main()
