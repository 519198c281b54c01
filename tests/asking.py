"""What the tests of avoiding and of ending share: questions, and what is right for them."""

import itertools
import random
import unittest

from enoughheard.errors import LimitExceeded
from enoughheard.solving import solved
from tests import own
from tests.helpers import THIRD, is_plain

NONE_FIT = (((0, 0, 0, 1),), ((-1, 0, 0, 1),), ((1, -1, 0, 1), (-1, 1, 0, 0)))
NOTHING = ((0, 0, 0, 0),)
# What it waits for is heard at once, in all orders; nobody comes to location 1.
ALWAYS = tuple((0, bound) for bound in ((-1, -1, 0), (-1, 0, 0), (0, -1, 0), (0, 0, 0)))
IDLE = (3, 1, (0,), tuple((0, 2, (one,), ()) for one in ALWAYS))


def system_rows(protocol, resilience, empty, order, more):
    sums = own.system_sums(protocol, resilience, empty, order) + more
    return own.as_rows(protocol, order, sums)


def left(protocol, order):
    return [one for one in own.conditions(protocol) if one not in order]


def silent_sets(protocol):
    """All sets of conditions, as tuples."""
    found = own.conditions(protocol)
    return sorted(silent for many in range(len(found) + 1)
                  for silent in itertools.combinations(found, many))


def own_rows(question, order):
    """The rows of a node's own systems."""
    word, protocol, resilience, empty, situation = question
    sums = own.situation_sums(protocol, order, situation)
    if word == "avoids":
        return [system_rows(protocol, resilience, empty, order, sums)]
    return [system_rows(protocol, resilience, empty, order,
                        sums + own.silent_sums(protocol, order, silent))
            for silent in silent_sets(protocol)]


def next_rows(question, order, condition):
    """The rows of the system of the order, and the next row for the condition."""
    _, protocol, resilience, empty, _ = question
    return system_rows(protocol, resilience, empty, order,
                       [own.hearing(protocol, condition, len(order))])


def looks_at(question, order=()):
    """How many systems the search looks at from this order on, and whether it ends there."""
    looks = 0
    for rows in own_rows(question, order):
        looks = looks + 1
        if solved(rows)[0] == "numbers":
            return looks, True
    for condition in left(question[1], order):
        looks = looks + 1
        if solved(next_rows(question, order, condition))[0] == "numbers":
            more, ends = looks_at(question, order + (condition,))
            looks = looks + more
            if ends:
                return looks, True
    return looks, False


def is_right_run(question, found):
    """Whether (numbers, firsts, run) answers the question with no, by steps of the test's own."""
    word, protocol, resilience, empty, situation = question
    numbers, firsts, run = found
    if len(numbers) != 3 or min(numbers) < 0 or not own.fit(resilience, numbers):
        return False
    if len(firsts) != protocol[0] or min(firsts) < 0 or sum(firsts) != numbers[0] - numbers[2]:
        return False
    if any(count and (location in empty or location not in protocol[2])
           for location, count in enumerate(firsts)):
        return False
    if len(run) > 200 or any(times < 1 for _, times in run):
        return False
    crowds = own.behind(protocol, numbers, own.first(protocol, firsts), run)
    if len(crowds) <= len(run) or not own.in_situation(situation, numbers, crowds[-1]):
        return False
    return word == "avoids" or not own.urges(protocol, numbers, crowds[-1])


def tree_size(question, node, order=()):
    """How many systems a right node of this order is about, with those below; else None."""
    weights, branches = node
    every = own_rows(question, order)
    weights = weights if question[0] == "ends" else (weights,)
    conditions = left(question[1], order)
    if len(weights) != len(every) or len(branches) != len(conditions):
        return None
    if not all(own.weighs(rows, one) for rows, one in zip(every, weights)):
        return None
    size = len(every)
    for condition, (word, below) in zip(conditions, branches):
        more = 0
        if word == "open":
            more = tree_size(question, below, order + (condition,))
        elif word != "barred" or not own.weighs(next_rows(question, order, condition), below):
            return None
        if more is None:
            return None
        size = size + 1 + more
    return size


def drawn_situation(draw, protocol):
    """Locations occupied together, more than half in one, or rows of any kind."""
    many, kinds = protocol[:2]
    kind = draw.randint(0, 3)
    if kind < 2:
        places = sorted(draw.sample(range(many), draw.randint(1, min(many, kind + 1))))
        return tuple((tuple(int(at == place) for at in range(many)), (0,) * kinds, (0, 0, 0), 1)
                     for place in places)
    if kind == 2:
        place = draw.randrange(many)
        return ((tuple(2 * int(at == place) for at in range(many)), (0,) * kinds, (-1, 0, 0), 1),)
    return tuple((tuple(draw.randint(-3, 2) for _ in range(many)),
                  tuple(draw.randint(-3, 3) for _ in range(kinds)),
                  tuple(draw.randint(-2, 1) for _ in range(3)), draw.randint(0, 9))
                 for _ in range(draw.randint(1, 4)))


def drawn_questions(many):
    """So many (protocol, resilience, empty, situation)."""
    resiliences = (THIRD, THIRD + ((1, 0, 0, 4),), ((1, -2, 0, 1), (0, 1, -1, 0)), NOTHING,
                   ((0, 1, -1, 0),), ((1, -3, 0, 1),), NONE_FIT[2])
    for seed in range(many):
        draw = random.Random(seed)
        protocol = own.drawn_protocol(seed, seed % 5)
        starts = protocol[2]
        empty = tuple(sorted(draw.sample(starts, draw.randint(0, len(starts) - 1))))
        yield protocol, draw.choice(resiliences), empty, drawn_situation(draw, protocol)


class Asking(unittest.TestCase):
    """Tests of three functions: whether it is so, a run if not, a tree if so."""

    word = None
    functions = ()

    def assert_answer(self, question, so=None):
        """All three answer, alike each time, and rightly; the limit is the told one."""
        told, found, tree = (function(*question) for function in self.functions)
        self.assertIs(told, found is None)
        self.assertIs(told, tree is not None)
        self.assertEqual([told, found, tree], [function(*question) for function in self.functions])
        if so is not None:
            self.assertIs(told, so)
        asked = (self.word,) + question
        looks, ends = looks_at(asked)
        self.assertIs(told, not ends)
        self.assertTrue(is_plain(tree if told else found))
        if told:
            self.assertEqual(tree_size(asked, tree), looks)
        else:
            self.assertTrue(is_right_run(asked, found))
        self.assert_limit(question, looks)

    def assert_limit(self, question, looks):
        for function in self.functions:
            right = function(*question)
            for tries in (looks, looks + 1, 5000):
                self.assertEqual(function(*question, tries=tries), right)
            for tries in sorted({-5000, -1, 0, 1, looks // 2, looks - 1}):
                if tries < looks:
                    with self.assertRaises(LimitExceeded) as caught:
                        function(*question, tries=tries)
                    self.assertEqual(caught.exception.limit, tries)
