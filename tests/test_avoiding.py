"""Points 3 (the first guarantee, for avoids) and 13, and the limits: avoiding."""

import random
import unittest

from enoughheard.avoiding import avoiding_tree, avoids, coming_to
from enoughheard.errors import LimitExceeded
from enoughheard.situations import occupied
from enoughheard.solving import solved
from tests import own
from tests.helpers import BROADCAST, THIRD, is_plain

NONE_FIT = (((0, 0, 0, 1),), ((-1, 0, 0, 1),), ((1, -1, 0, 1), (-1, 1, 0, 0)))
NOTHING = ((0, 0, 0, 0),)
# What it waits for is heard at once, in all orders; nobody comes to location 1.
ALWAYS = tuple((0, bound) for bound in ((-1, -1, 0), (-1, 0, 0), (0, -1, 0), (0, 0, 0)))
IDLE = (3, 1, (0,), tuple((0, 2, (one,), ()) for one in ALWAYS))


def system_rows(protocol, resilience, empty, order, more):
    sums = own.system_sums(protocol, resilience, empty, order) + more
    return own.as_rows(protocol, order, sums)


def left(protocol, order):
    return [one for one in own.conditions(protocol) if one not in order]


def looks_at(protocol, resilience, empty, situation, order=()):
    """How many systems the search looks at from this order on, and whether it ends there."""
    rows = system_rows(protocol, resilience, empty, order,
                       own.situation_sums(protocol, order, situation))
    if solved(rows)[0] == "numbers":
        return 1, True
    looks = 1
    for condition in left(protocol, order):
        rows = system_rows(protocol, resilience, empty, order,
                           [own.hearing(protocol, condition, len(order))])
        looks = looks + 1
        if solved(rows)[0] == "numbers":
            more, ends = looks_at(protocol, resilience, empty, situation, order + (condition,))
            looks = looks + more
            if ends:
                return looks, True
    return looks, False


def drawn_situation(draw, protocol):
    """Locations occupied together, more than half in one, or rows of any kind."""
    many, kinds = protocol[:2]
    kind = draw.randint(0, 3)
    if kind < 2:
        places = sorted(draw.sample(range(many), draw.randint(1, min(many, kind + 1))))
        return tuple((tuple(int(at == place) for at in range(many)), (0,) * kinds, (0, 0, 0), 1)
                     for place in places)
    if kind == 2:
        place = draw.randrange(many)
        return ((tuple(2 * int(at == place) for at in range(many)), (0,) * kinds, (-1, 0, 0), 1),)
    return tuple((tuple(draw.randint(-3, 2) for _ in range(many)),
                  tuple(draw.randint(-3, 3) for _ in range(kinds)),
                  tuple(draw.randint(-2, 1) for _ in range(3)), draw.randint(0, 9))
                 for _ in range(draw.randint(1, 4)))


def drawn_questions(many):
    """So many (protocol, resilience, empty, situation)."""
    resiliences = (THIRD, THIRD + ((1, 0, 0, 4),), ((1, -2, 0, 1), (0, 1, -1, 0)), NOTHING,
                   ((0, 1, -1, 0),), ((1, -3, 0, 1),), NONE_FIT[2])
    for seed in range(many):
        draw = random.Random(seed)
        protocol = own.drawn_protocol(seed, seed % 5)
        starts = protocol[2]
        empty = tuple(sorted(draw.sample(starts, draw.randint(0, len(starts) - 1))))
        yield protocol, draw.choice(resiliences), empty, drawn_situation(draw, protocol)


class Avoiding(unittest.TestCase):
    def assert_run(self, question, found):
        """A run into the situation, by steps of the test's own."""
        protocol, resilience, empty, situation = question
        self.assertTrue(is_plain(found))
        numbers, firsts, run = found
        self.assertEqual(len(numbers), 3)
        self.assertTrue(own.fit(resilience, numbers))
        self.assertEqual(len(firsts), protocol[0])
        for location, count in enumerate(firsts):
            may = location in protocol[2] and location not in empty
            self.assertTrue(count == 0 or count > 0 and may)
        self.assertEqual(sum(firsts), numbers[0] - numbers[2])
        self.assertTrue(all(times >= 1 for _, times in run))
        self.assertLessEqual(len(run), 200)
        crowds = own.behind(protocol, numbers, own.first(protocol, firsts), run)
        self.assertEqual(len(crowds), len(run) + 1)
        self.assertTrue(own.in_situation(situation, numbers, crowds[-1]))

    def assert_tree(self, question, node, order=()):
        """A right node of this order; returns how many systems the tree is about."""
        protocol, resilience, empty, situation = question
        self.assertTrue(is_plain(node))
        weights, branches = node
        rows = system_rows(protocol, resilience, empty, order,
                           own.situation_sums(protocol, order, situation))
        self.assertTrue(own.weighs(rows, weights))
        self.assertEqual(len(branches), len(left(protocol, order)))
        count = 1
        for condition, (word, below) in zip(left(protocol, order), branches):
            count = count + 1
            if word == "open":
                count = count + self.assert_tree(question, below, order + (condition,))
            else:
                self.assertEqual(word, "barred")
                rows = system_rows(protocol, resilience, empty, order,
                                   [own.hearing(protocol, condition, len(order))])
                self.assertTrue(own.weighs(rows, below))
        return count

    def assert_answer(self, question, avoided=None):
        """All three answer, alike each time, and rightly; the limit is the told one."""
        told = avoids(*question)
        found = coming_to(*question)
        tree = avoiding_tree(*question)
        self.assertIs(told, found is None)
        self.assertIs(told, tree is not None)
        self.assertEqual(found, coming_to(*question))
        self.assertEqual(tree, avoiding_tree(*question))
        if avoided is not None:
            self.assertIs(told, avoided)
        looks, ends = looks_at(*question)
        self.assertIs(told, not ends)
        if told:
            self.assertEqual(self.assert_tree(question, tree), looks)
        else:
            self.assert_run(question, found)
        self.assert_limit(question, looks)

    def assert_limit(self, question, looks):
        for function in (avoids, coming_to, avoiding_tree):
            right = function(*question)
            for tries in (looks, looks + 1, 5000):
                self.assertEqual(function(*question, tries=tries), right)
            for tries in {1, looks // 2, looks - 1} - {0}:
                if tries < looks:
                    with self.assertRaises(LimitExceeded) as caught:
                        function(*question, tries=tries)
                    self.assertEqual(caught.exception.limit, tries)


class Broadcast(Avoiding):
    def test_nobody_accepts_what_nobody_sent(self):
        self.assert_answer((BROADCAST, THIRD, (1,), occupied(BROADCAST, (3,))), True)
        self.assert_limit((BROADCAST, THIRD, (1,), occupied(BROADCAST, (3,))), 3)

    def test_who_sent_may_be_accepted(self):
        self.assert_answer((BROADCAST, THIRD, (), occupied(BROADCAST, (3,))), False)
        self.assert_answer((BROADCAST, THIRD, (0,), occupied(BROADCAST, (3,))), False)

    def test_too_many_liars(self):
        third = ((1, -3, 0, 0), (0, 1, -1, 0), (0, 1, 0, 1))
        self.assert_answer((BROADCAST, third, (1,), occupied(BROADCAST, (3,))), True)
        more = ((1, -3, 0, 1), (0, 1, -1, 1))
        self.assert_answer((BROADCAST, more, (1,), occupied(BROADCAST, (3,))), True)
        many = ((0, 2, -1, 0),)
        self.assert_answer((BROADCAST, many, (1,), occupied(BROADCAST, (3,))), False)

    def test_it_ends_at_the_first_system_that_is_satisfied(self):
        question = (BROADCAST, THIRD, (), occupied(BROADCAST, (0,)))
        self.assert_answer(question, False)
        self.assert_limit(question, 1)
        self.assertEqual(coming_to(*question)[2], ())

    def test_the_looks_up_to_a_run(self):
        # (), the next row for LOW, (LOW,), the next row for HIGH, (LOW, HIGH).
        question = (BROADCAST, THIRD + ((0, 0, 1, 1),), (), (((0, 0, 1, 1), (0,), (-1, 0, 1), 0),
                                                             ((0, 0, 0, 1), (0,), (0, 0, 0), 1)))
        self.assert_answer(question, False)
        self.assert_limit(question, 5)

    def test_situations_of_several_rows(self):
        half = (((0, 0, 0, 2), (0,), (-1, 0, 0), 1), ((1, 0, 0, 0), (0,), (0, 0, 0), 1))
        self.assert_answer((BROADCAST, THIRD, (), half), False)
        self.assert_answer((BROADCAST, THIRD, (1,), half), True)
        never = half + (((-1, 0, 0, 0), (0,), (0, 0, 0), 0),)
        self.assert_answer((BROADCAST, THIRD, (), never), True)


class Others(Avoiding):
    def test_no_conditions(self):
        protocol = (3, 1, (0,), ((0, 1, (), (0,)),))
        self.assert_answer((protocol, THIRD, (), occupied(protocol, (0, 1))), False)
        self.assert_answer((protocol, THIRD, (), occupied(protocol, (2,))), True)
        self.assert_limit((protocol, THIRD, (), occupied(protocol, (2,))), 1)
        self.assertEqual(avoiding_tree(protocol, THIRD, (), occupied(protocol, (2,)))[1], ())

    def test_no_rules(self):
        protocol = (2, 0, (0,), ())
        self.assert_answer((protocol, THIRD, (), occupied(protocol, (1,))), True)
        self.assert_answer((protocol, THIRD, (), occupied(protocol, (0,))), False)

    def test_resiliences_that_no_numbers_fit(self):
        for resilience in NONE_FIT:
            for seed in range(10):
                protocol = own.drawn_protocol(seed, seed % 5)
                always = (((0,) * protocol[0], (0,) * protocol[1], (0, 0, 0), 0),)
                question = (protocol, resilience, (), always)
                self.assert_answer(question, True)
                self.assert_limit(question, 1 + seed % 5)
                branches = avoiding_tree(*question)[1]
                self.assertEqual([word for word, _ in branches], ["barred"] * (seed % 5))

    def test_all_orders_open(self):
        question = (IDLE, THIRD, (), occupied(IDLE, (1,)))
        # 1 + 4 + 12 + 24 + 24 nodes, and a look at each branch to one.
        self.assert_answer(question, True)
        self.assert_limit(question, 129)

    def test_orders_other_than_the_ascending_one(self):
        no_liars = ((0, 0, -1, 0),)
        said, asked, free = (0, (0, 0, 1)), (1, (0, 0, 1)), (1, (0, 0, 0))
        two = (3, 2, (0,), ((0, 1, (free,), (0,)), (0, 2, (said,), ())))
        question = (two, no_liars, (), occupied(two, (2,)))
        self.assert_answer(question, False)
        # (), said is barred, free; (free,), said; (free, said).
        self.assert_limit(question, 6)
        three = (4, 2, (0,), two[3][:1] + ((0, 2, (said,), (1,)), (0, 3, (asked,), ())))
        question = (three, no_liars, (), occupied(three, (3,)))
        self.assert_answer(question, False)
        # (), said is barred, free; (free,), said; (free, said), asked; (free, said, asked).
        self.assert_limit(question, 8)
        question = (three, no_liars, (), occupied(three, (3, 0, 1, 2)))
        self.assert_answer(question, False)

    def test_conditions_that_open_one_another(self):
        # Who waits at 0 says kind 0 and then 1; the rules tell the last one first.
        first, second, third = (0, (0, 1, 1)), (0, (1, -1, 0)), (1, (1, -1, 0))
        protocol = (5, 2, (0, 1), ((3, 4, (third,), ()), (2, 3, (second,), (1,)),
                                   (0, 2, (first,), (0,)), (1, 2, (), (0,))))
        self.assert_answer((protocol, THIRD, (), occupied(protocol, (4,))), False)
        self.assert_answer((protocol, THIRD, (1,), occupied(protocol, (4,))), True)
        self.assert_answer((protocol, THIRD, (1,), occupied(protocol, (2,))), True)
        self.assert_answer((protocol, ((1, -3, 0, 0), (0, 1, -1, 0), (0, 0, 1, 9)), (),
                            occupied(protocol, (0, 1, 2, 4))), False)

    def test_empty_starts(self):
        protocol = (4, 0, (0, 1, 2), ((0, 3, (), ()), (1, 3, (), ())))
        for empty, place, avoided in (((), 0, False), ((0,), 0, True), ((0, 1), 3, True),
                                      ((1, 2), 3, False), ((0, 2), 3, False), ((2,), 2, True)):
            question = (protocol, THIRD, empty, occupied(protocol, (place,)))
            self.assert_answer(question, avoided)

    def test_only_great_numbers(self):
        resilience = ((1, -9, 0, 9), (0, 1, -9, 9), (0, 0, 1, 9), (0, 1, -1, 0))
        question = (BROADCAST, resilience, (), occupied(BROADCAST, (0, 1, 2, 3)))
        self.assert_answer(question, False)
        self.assertGreater(coming_to(*question)[0][0], 700)


class Drawn(Avoiding):
    def test_drawn_questions(self):
        answers = []
        for question in drawn_questions(90):
            self.assert_answer(question)
            answers.append(avoids(*question))
        self.assertGreater(answers.count(True), 20)
        self.assertGreater(answers.count(False), 20)

    def test_small_crowds_by_trying_all_runs(self):
        comes = 0
        for question in drawn_questions(120):
            if own.comes_into(*question, 3):
                comes = comes + 1
                self.assertIs(avoids(*question), False)
        self.assertGreater(comes, 20)

    def test_never_more_than_129_with_four_conditions(self):
        for seed in range(30):
            protocol = own.drawn_protocol(seed, 4)
            for place in range(protocol[0]):
                question = (protocol, THIRD, (), occupied(protocol, (place,)))
                self.assertEqual(avoids(*question, tries=129), avoids(*question))


if __name__ == "__main__":
    unittest.main()
