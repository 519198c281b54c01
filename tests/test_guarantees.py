"""Point 3, over the whole program: what is shown, what is broken, and what halls do."""

import random
import unittest

from enoughheard.checker import first_fault
from enoughheard.claims import decide
from enoughheard.halls import Hall
from enoughheard.replays import replayed
from enoughheard.runs import behind_run
from tests import own
from tests.asking import drawn_questions
from tests.halling import drawn_hall
from tests.helpers import BROADCAST, THIRD
from tests.judging import BEHIND, DECIDED

MANY_NUMBERS = ((4, 1, 1), (4, 1, 0), (5, 1, 1), (7, 2, 2), (3, 1, 1), (3, 0, 0), (1, 0, 0), (2, 2, 1),
                (5, 2, 0), (6, 1, 3), (0, 0, 0))


def some_deed(draw, hall, numbers, kinds):
    """Does one of the deeds that can be done, if one that is drawn can be."""
    n, _, f = numbers
    right = range(n - f)
    acts = [(member, rule) for member in right for rule in hall.can_act(member)]
    roll = draw.random()
    if acts and roll < 0.5:
        hall.act(*draw.choice(acts))
    elif roll < 0.6:
        hall.spread()
    elif f and n > f and kinds and roll < 0.8:
        try:
            hall.lie(draw.randrange(n - f, n), draw.choice(right), draw.randrange(kinds))
        except RuntimeError:
            pass
    elif n > f and kinds:
        try:
            hall.deliver(draw.choice(right), draw.choice(right), draw.randrange(kinds))
        except RuntimeError:
            pass


def comes_to_rest(draw, hall, right):
    """Delivers all and lets somebody act, again and again; returns how many acts."""
    acts = 0
    while True:
        hall.spread()
        can = [(member, rule) for member in range(right) for rule in hall.can_act(member)]
        if not can:
            return acts
        hall.act(*draw.choice(can))
        acts = acts + 1


class Rest(unittest.TestCase):
    def test_halls_come_to_rest(self):
        for seed in range(150):
            protocol, numbers, starts = drawn_hall(seed)
            draw = random.Random(seed)
            hall = Hall(protocol, numbers, starts)
            for _ in range(draw.choice((0, 10, 40))):
                some_deed(draw, hall, numbers, protocol[1])
            done = len(hall.run())
            acts = comes_to_rest(draw, hall, len(starts))
            self.assertLessEqual(done + acts, len(starts) * (protocol[0] - 1))
            self.assertEqual(hall.spread(), 0)
            self.assertIs(hall.is_end(), True)
            self.assertEqual(own.urges(protocol, numbers, hall.crowd()), [])

    def test_what_a_hall_does_is_a_run(self):
        for seed in range(150):
            protocol, numbers, starts = drawn_hall(seed)
            draw = random.Random(seed)
            hall = Hall(protocol, numbers, starts)
            first = own.first(protocol, hall.firsts())
            for _ in range(30):
                some_deed(draw, hall, numbers, protocol[1])
                crowds = own.behind(protocol, numbers, first, hall.run())
                self.assertEqual(len(crowds), len(hall.run()) + 1)
                self.assertEqual(crowds[-1], hall.crowd())
                self.assertEqual(behind_run(protocol, numbers, first, hall.run()), hall.crowd())


class ShownAndBroken(unittest.TestCase):
    def assert_shown(self, claim, seed):
        """In no hall that is tried does what is shown not to be come about."""
        word, protocol, resilience, empty, situation = claim
        draw = random.Random(seed)
        may = [start for start in protocol[2] if start not in empty]
        for numbers in MANY_NUMBERS:
            if not own.fit(resilience, numbers):
                continue
            starts = tuple(draw.choice(may) for _ in range(numbers[0] - numbers[2]))
            hall = Hall(protocol, numbers, starts)
            for _ in range(25):
                if word == "avoids" or hall.is_end():
                    self.assertFalse(own.in_situation(situation, numbers, hall.crowd()))
                some_deed(draw, hall, numbers, protocol[1])
            comes_to_rest(draw, hall, len(starts))
            self.assertFalse(own.in_situation(situation, numbers, hall.crowd()))

    def assert_broken(self, claim, paper):
        """The hall in which the run is replayed is in the situation; for ends at rest at last."""
        word, protocol, resilience, empty, situation = claim
        numbers, firsts, run = paper
        self.assertTrue(own.fit(resilience, numbers))
        hall = replayed(protocol, numbers, firsts, run)
        self.assertTrue(own.in_situation(situation, numbers, hall.crowd()))
        self.assertEqual(sum(hall.firsts()[start] for start in empty), 0)
        if word == "ends":
            self.assertIs(hall.is_end(), True)
            hall.spread()
            self.assertEqual(hall.spread(), 0)
            for member in range(numbers[0] - numbers[2]):
                self.assertEqual(hall.can_act(member), ())
            self.assertIs(hall.is_end(), True)
            self.assertTrue(own.in_situation(situation, numbers, hall.crowd()))

    def assert_claim(self, claim, seed=0):
        verdict, _, paper = decide(claim)
        self.assertIsNone(first_fault((verdict, claim, paper)))
        if verdict == "shown":
            self.assert_shown(claim, seed)
        elif paper[0][0] <= 40:
            self.assert_broken(claim, paper)
        else:
            return "great"
        return verdict

    def test_the_broadcast(self):
        for word, empty, situation, verdict in (
                ("avoids", (1,), DECIDED, "shown"), ("avoids", (), DECIDED, "broken"),
                ("ends", (), BEHIND, "shown"), ("ends", (), DECIDED, "broken"),
                ("avoids", (), BEHIND, "broken"), ("ends", (0,), BEHIND[:1], "shown")):
            for seed in range(10):
                self.assertEqual(self.assert_claim((word, BROADCAST, THIRD, empty, situation), seed),
                                 verdict)

    def test_drawn_claims(self):
        found = []
        for seed, question in enumerate(drawn_questions(150)):
            for word in ("avoids", "ends"):
                found.append((word, self.assert_claim((word,) + question, seed)))
        for word in ("avoids", "ends"):
            for verdict in ("shown", "broken"):
                self.assertGreater(found.count((word, verdict)), 15)

    def test_where_no_numbers_fit_all_is_shown(self):
        none = ((0, 0, 0, 1),)
        for seed in range(10):
            protocol = own.drawn_protocol(seed, seed % 5)
            always = (((0,) * protocol[0], (0,) * protocol[1], (0, 0, 0), 0),)
            for word in ("avoids", "ends"):
                self.assertEqual(decide((word, protocol, none, (), always))[0], "shown")


if __name__ == "__main__":
    unittest.main()
