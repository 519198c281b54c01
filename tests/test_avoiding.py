"""Points 3 (the first guarantee, for avoids) and 13, and the limits: avoiding."""

import unittest

from enoughheard.avoiding import avoiding_tree, avoids, coming_to
from enoughheard.situations import occupied
from tests import own
from tests.asking import IDLE, NONE_FIT, Asking, drawn_questions
from tests.helpers import BROADCAST, THIRD


class Avoiding(Asking):
    word = "avoids"
    functions = (avoids, coming_to, avoiding_tree)


class Broadcast(Avoiding):
    def test_nobody_accepts_what_nobody_sent(self):
        self.assert_answer((BROADCAST, THIRD, (1,), occupied(BROADCAST, (3,))), True)
        self.assert_limit((BROADCAST, THIRD, (1,), occupied(BROADCAST, (3,))), 3)

    def test_who_sent_may_be_accepted(self):
        self.assert_answer((BROADCAST, THIRD, (), occupied(BROADCAST, (3,))), False)
        self.assert_answer((BROADCAST, THIRD, (0,), occupied(BROADCAST, (3,))), False)

    def test_too_many_liars(self):
        third = ((1, -3, 0, 0), (0, 1, -1, 0), (0, 1, 0, 1))
        self.assert_answer((BROADCAST, third, (1,), occupied(BROADCAST, (3,))), True)
        more = ((1, -3, 0, 1), (0, 1, -1, 1))
        self.assert_answer((BROADCAST, more, (1,), occupied(BROADCAST, (3,))), True)
        many = ((0, 2, -1, 0),)
        self.assert_answer((BROADCAST, many, (1,), occupied(BROADCAST, (3,))), False)

    def test_it_ends_at_the_first_system_that_is_satisfied(self):
        question = (BROADCAST, THIRD, (), occupied(BROADCAST, (0,)))
        self.assert_answer(question, False)
        self.assert_limit(question, 1)
        self.assertEqual(coming_to(*question)[2], ())

    def test_the_looks_up_to_a_run(self):
        # (), the next row for LOW, (LOW,), the next row for HIGH, (LOW, HIGH).
        question = (BROADCAST, THIRD + ((0, 0, 1, 1),), (), (((0, 0, 1, 1), (0,), (-1, 0, 1), 0),
                                                             ((0, 0, 0, 1), (0,), (0, 0, 0), 1)))
        self.assert_answer(question, False)
        self.assert_limit(question, 5)

    def test_situations_of_several_rows(self):
        half = (((0, 0, 0, 2), (0,), (-1, 0, 0), 1), ((1, 0, 0, 0), (0,), (0, 0, 0), 1))
        self.assert_answer((BROADCAST, THIRD, (), half), False)
        self.assert_answer((BROADCAST, THIRD, (1,), half), True)
        never = half + (((-1, 0, 0, 0), (0,), (0, 0, 0), 0),)
        self.assert_answer((BROADCAST, THIRD, (), never), True)


class Others(Avoiding):
    def test_no_conditions(self):
        protocol = (3, 1, (0,), ((0, 1, (), (0,)),))
        self.assert_answer((protocol, THIRD, (), occupied(protocol, (0, 1))), False)
        self.assert_answer((protocol, THIRD, (), occupied(protocol, (2,))), True)
        self.assert_limit((protocol, THIRD, (), occupied(protocol, (2,))), 1)
        self.assertEqual(avoiding_tree(protocol, THIRD, (), occupied(protocol, (2,)))[1], ())

    def test_no_rules(self):
        protocol = (2, 0, (0,), ())
        self.assert_answer((protocol, THIRD, (), occupied(protocol, (1,))), True)
        self.assert_answer((protocol, THIRD, (), occupied(protocol, (0,))), False)

    def test_resiliences_that_no_numbers_fit(self):
        for resilience in NONE_FIT:
            for seed in range(10):
                protocol = own.drawn_protocol(seed, seed % 5)
                always = (((0,) * protocol[0], (0,) * protocol[1], (0, 0, 0), 0),)
                question = (protocol, resilience, (), always)
                self.assert_answer(question, True)
                self.assert_limit(question, 1 + seed % 5)
                branches = avoiding_tree(*question)[1]
                self.assertEqual([word for word, _ in branches], ["barred"] * (seed % 5))

    def test_all_orders_open(self):
        question = (IDLE, THIRD, (), occupied(IDLE, (1,)))
        # 1 + 4 + 12 + 24 + 24 nodes, and a look at each branch to one.
        self.assert_answer(question, True)
        self.assert_limit(question, 129)

    def test_orders_other_than_the_ascending_one(self):
        no_liars = ((0, 0, -1, 0),)
        said, asked, free = (0, (0, 0, 1)), (1, (0, 0, 1)), (1, (0, 0, 0))
        two = (3, 2, (0,), ((0, 1, (free,), (0,)), (0, 2, (said,), ())))
        question = (two, no_liars, (), occupied(two, (2,)))
        self.assert_answer(question, False)
        # (), said is barred, free; (free,), said; (free, said).
        self.assert_limit(question, 6)
        three = (4, 2, (0,), two[3][:1] + ((0, 2, (said,), (1,)), (0, 3, (asked,), ())))
        question = (three, no_liars, (), occupied(three, (3,)))
        self.assert_answer(question, False)
        # (), said is barred, free; (free,), said; (free, said), asked; (free, said, asked).
        self.assert_limit(question, 8)
        question = (three, no_liars, (), occupied(three, (3, 0, 1, 2)))
        self.assert_answer(question, False)

    def test_conditions_that_open_one_another(self):
        # Who waits at 0 says kind 0 and then 1; the rules tell the last one first.
        first, second, third = (0, (0, 1, 1)), (0, (1, -1, 0)), (1, (1, -1, 0))
        protocol = (5, 2, (0, 1), ((3, 4, (third,), ()), (2, 3, (second,), (1,)),
                                   (0, 2, (first,), (0,)), (1, 2, (), (0,))))
        self.assert_answer((protocol, THIRD, (), occupied(protocol, (4,))), False)
        self.assert_answer((protocol, THIRD, (1,), occupied(protocol, (4,))), True)
        self.assert_answer((protocol, THIRD, (1,), occupied(protocol, (2,))), True)
        self.assert_answer((protocol, ((1, -3, 0, 0), (0, 1, -1, 0), (0, 0, 1, 9)), (),
                            occupied(protocol, (0, 1, 2, 4))), False)

    def test_empty_starts(self):
        protocol = (4, 0, (0, 1, 2), ((0, 3, (), ()), (1, 3, (), ())))
        for empty, place, avoided in (((), 0, False), ((0,), 0, True), ((0, 1), 3, True),
                                      ((1, 2), 3, False), ((0, 2), 3, False), ((2,), 2, True)):
            question = (protocol, THIRD, empty, occupied(protocol, (place,)))
            self.assert_answer(question, avoided)

    def test_only_great_numbers(self):
        resilience = ((1, -9, 0, 9), (0, 1, -9, 9), (0, 0, 1, 9), (0, 1, -1, 0))
        question = (BROADCAST, resilience, (), occupied(BROADCAST, (0, 1, 2, 3)))
        self.assert_answer(question, False)
        self.assertGreater(coming_to(*question)[0][0], 700)


class Drawn(Avoiding):
    def test_drawn_questions(self):
        answers = []
        for question in drawn_questions(90):
            self.assert_answer(question)
            answers.append(avoids(*question))
        self.assertGreater(answers.count(True), 20)
        self.assertGreater(answers.count(False), 20)

    def test_small_crowds_by_trying_all_runs(self):
        comes = 0
        for question in drawn_questions(120):
            if own.comes_into(*question, 3)[0]:
                comes = comes + 1
                self.assertIs(avoids(*question), False)
        self.assertGreater(comes, 20)

    def test_never_more_than_129_with_four_conditions(self):
        for seed in range(30):
            protocol = own.drawn_protocol(seed, 4)
            for place in range(protocol[0]):
                question = (protocol, THIRD, (), occupied(protocol, (place,)))
                self.assertEqual(avoids(*question, tries=129), avoids(*question))


if __name__ == "__main__":
    unittest.main()
