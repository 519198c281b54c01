"""Point 15, and the limits: least factors."""

import unittest

from enoughheard.errors import LimitExceeded
from enoughheard.least import least_factor
from enoughheard.situations import occupied
from tests import own
from tests.asking import IDLE, drawn_questions, looks_at
from tests.helpers import BROADCAST, THIRD

TOLERATED = ((0, 1, -1, 0),)
WORDS = ("avoids", "ends")
STILL = (2, 1, (0,), ())


def at_most(n, t, f):
    """The situation in which n n <= t t + f f."""
    return (((0, 0), (0,), (-n, t, f), 0),)


def with_row(question, m):
    word, protocol, resilience, empty, situation = question
    return word, protocol, resilience + ((1, 0 - m, 0, 1),), empty, situation


def looks_by_factor(question):
    """How many systems are looked at for each factor, up to the first with which it is so."""
    found = []
    for m in range(10):
        looks, ends = looks_at(with_row(question, m))
        found.append(looks)
        if not ends:
            return m, found
    return None, found


class Least(unittest.TestCase):
    def assert_least(self, question, least="any"):
        told, looks = looks_by_factor(question)
        if least != "any":
            self.assertEqual(told, least)
        for _ in range(2):
            found = least_factor(*question)
            self.assertEqual(found, told)
            self.assertIn(type(found), (int, type(None)))
        for tries in (max(looks), max(looks) + 1, 5000):
            self.assertEqual(least_factor(*question, tries=tries), told)
        for tries in sorted({-5000, -1, 0, 1, max(looks) - 1}):
            if tries < max(looks):
                with self.assertRaises(LimitExceeded) as caught:
                    least_factor(*question, tries=tries)
                self.assertEqual(caught.exception.limit, tries)
        return told, looks

    def test_the_broadcast(self):
        self.assert_least(("ends", BROADCAST, TOLERATED, (), occupied(BROADCAST, (0, 3))), 3)
        self.assert_least(("ends", BROADCAST, TOLERATED, (), occupied(BROADCAST, (2, 3))), 3)
        self.assert_least(("avoids", BROADCAST, TOLERATED, (1,), occupied(BROADCAST, (3,))), 2)
        self.assert_least(("avoids", BROADCAST, TOLERATED, (), occupied(BROADCAST, (3,))), None)
        self.assert_least(("ends", BROADCAST, TOLERATED, (), occupied(BROADCAST, (1,))), 0)

    def test_each_factor(self):
        for word in WORDS:
            for m in range(10):
                self.assert_least((word, STILL, TOLERATED, (), at_most(1, m, 0)), m)
            # n <= 9 t + f, with a liar: no factor is enough.
            some = TOLERATED + ((0, 0, 1, 1),)
            self.assert_least((word, STILL, some, (), at_most(1, 9, 1)), None)
            # 2 n <= 5 t: 3 t + 1 is enough, 2 t + 1 is not.
            self.assert_least((word, STILL, TOLERATED, (), at_most(2, 5, 0)), 3)

    def test_the_words_differ(self):
        waits = (2, 1, (0,), ((0, 1, ((0, (0, 0, 0)),), ()),))
        everybody = occupied(waits, (0,))
        self.assert_least(("avoids", waits, TOLERATED, (), everybody), None)
        self.assert_least(("ends", waits, TOLERATED, (), everybody), 0)

    def test_resiliences_of_four_rows(self):
        four = TOLERATED + ((1, -2, 0, 1), (0, 0, 1, 1), (9, -9, -9, 9))
        self.assert_least(("ends", BROADCAST, four, (), occupied(BROADCAST, (0, 3))), 3)
        self.assert_least(("avoids", STILL, four, (), at_most(1, 4, 0)), 4)
        self.assert_least(("avoids", STILL, four, (), at_most(1, 2, 0)), 0)
        none_fit = four[:3] + ((0, 0, 0, 9),)
        self.assert_least(("avoids", STILL, none_fit, (), at_most(0, 1, 0)), 0)

    def test_each_factor_is_counted_by_itself(self):
        # At the factor 0 a run is found at once; at 1 all is looked at.
        question = ("avoids", IDLE, TOLERATED, (), (((0, 1, 0), (0,), (0, 0, 0), 1),))
        self.assertEqual(self.assert_least(question), (0, [129]))
        question = ("avoids", IDLE, TOLERATED, (), (((0, 0, 0), (0,), (-1, 1, 0), 0),))
        self.assertEqual(self.assert_least(question), (1, [1, 129]))
        question = ("ends", BROADCAST, TOLERATED, (), occupied(BROADCAST, (0, 3)))
        told, looks = self.assert_least(question)
        self.assertEqual(told, 3)
        self.assertGreater(sum(looks), max(looks))

    def test_a_limit_that_only_a_factor_before_exceeds(self):
        # With 2 t >= n all can be heard, one after the other; else nothing is.
        asked = ((0, (1, -1, 0)), (0, (1, -1, 1)), (1, (1, -1, 0)))
        protocol = (3, 2, (0,), ((0, 1, asked[:1], ()), (0, 1, asked[1:2], ()), (0, 2, asked[2:], ())))
        question = ("avoids", protocol, TOLERATED, (), occupied(protocol, (2,)))
        self.assertEqual(self.assert_least(question), (2, [7, 7, 4]))
        for tries in (4, 5, 6):
            self.assertRaises(LimitExceeded, lambda: least_factor(*question, tries=tries))

    def test_drawn_questions(self):
        found = []
        for at, (protocol, _, empty, situation) in enumerate(drawn_questions(60)):
            if len(own.conditions(protocol)) < 4:
                resilience = (TOLERATED, THIRD[1:] + ((0, 0, 1, 1),), ((1, 0, 0, 4),))[at % 3]
                for word in WORDS:
                    question = (word, protocol, resilience, empty, situation)
                    found.append(self.assert_least(question)[0])
        self.assertGreater(found.count(None), 10)
        self.assertGreater(found.count(0), 10)
        self.assertTrue([m for m in found if m])


if __name__ == "__main__":
    unittest.main()
