"""Claims of all kinds, and whether a certificate is right, by the tests' own sums and steps."""

import random

from tests import own
from tests.asking import drawn_questions, drawn_situation, is_right_run, tree_size
from tests.helpers import BROADCAST, HIGH, LOW, THIRD

TOLERATED = ((0, 1, -1, 0),)
DECIDED = (((0, 0, 0, 1), (0,), (0, 0, 0), 1),)
BEHIND = (((1, 0, 0, 0), (0,), (0, 0, 0), 1),) + DECIDED
UNFORGED = ("avoids", (1,), DECIDED)
TOGETHER = ("ends", (), BEHIND)
# The broadcast, but who sends on waits for too few.
WEAK = (4, 1, (0, 1), ((1, 2, (), (0,)), (0, 2, ((0, (0, 1, 0)),), (0,)), (0, 3, (HIGH,), (0,)),
                       (2, 3, (HIGH,), ())))
OPTIONS = (("bound", (0, (0, 1, 0)), (0, 1, 1), 4), ("drop", 1, 2), ("drop", 2, 2))
WISHES = (UNFORGED, TOGETHER)

# A claim for each row of the table: its number, the claim, the verdict.
ROWS = (
    (0, ("avoids", BROADCAST, THIRD, (1,), DECIDED), "shown"),
    (0, ("ends", BROADCAST, THIRD, (), BEHIND), "shown"),
    (1, ("avoids", BROADCAST, THIRD, (), DECIDED), "broken"),
    (1, ("ends", BROADCAST, THIRD, (), DECIDED), "broken"),
    (2, ("least", "ends", BROADCAST, TOLERATED, (), BEHIND, 3), "shown"),
    (2, ("least", "avoids", BROADCAST, TOLERATED, (1,), DECIDED, 2), "shown"),
    (2, ("least", "ends", BROADCAST, TOLERATED, (0,), BEHIND[:1], 0), "shown"),
    (3, ("least", "avoids", BROADCAST, TOLERATED, (), DECIDED, None), "shown"),
    (3, ("least", "ends", BROADCAST, TOLERATED, (), DECIDED, None), "shown"),
    (4, ("least", "ends", BROADCAST, TOLERATED, (), BEHIND, 4), "broken"),
    (4, ("least", "avoids", BROADCAST, TOLERATED, (1,), DECIDED, 9), "broken"),
    (4, ("least", "avoids", BROADCAST, TOLERATED, (1,), DECIDED, None), "broken"),
    (5, ("least", "ends", BROADCAST, TOLERATED, (), BEHIND, 2), "broken"),
    (5, ("least", "avoids", BROADCAST, TOLERATED, (), DECIDED, 9), "broken"),
    (5, ("least", "avoids", BROADCAST, TOLERATED, (1,), DECIDED, 0), "broken"),
    (6, ("mend", WEAK, THIRD, WISHES, OPTIONS, 4), "shown"),
    (6, ("mend", WEAK, THIRD, WISHES[:1], OPTIONS, 2), "shown"),
    (6, ("mend", BROADCAST, THIRD, WISHES, (("drop", 0, 0),), 0), "shown"),
    (7, ("mend", WEAK, THIRD, WISHES, OPTIONS[1:], None), "shown"),
    (7, ("mend", WEAK, THIRD, (("ends", (), DECIDED),), OPTIONS[:1], None), "shown"),
    (8, ("mend", WEAK, THIRD, WISHES, OPTIONS, 5), "broken"),
    (8, ("mend", WEAK, THIRD, WISHES, OPTIONS, None), "broken"),
    (8, ("mend", BROADCAST, THIRD, WISHES, (("bound", LOW, LOW[1], 9),), 300), "broken"),
    (9, ("mend", WEAK, THIRD, WISHES, OPTIONS, 3), "broken"),
    (9, ("mend", WEAK, THIRD, WISHES, OPTIONS, 0), "broken"),
    (9, ("mend", WEAK, THIRD, WISHES, OPTIONS[1:], 300), "broken"),
)


def drawn_claims(many):
    """So many claims of all kinds, with at most three conditions."""
    at = 0
    for seed, (protocol, resilience, empty, situation) in enumerate(drawn_questions(many * 2)):
        if len(own.conditions(protocol)) == 4 or at == many:
            continue
        at = at + 1
        draw = random.Random(seed)
        word = draw.choice(("avoids", "ends"))
        if at % 4 == 0:
            yield word, protocol, resilience, empty, situation
        elif at % 4 == 1:
            yield ("least", word, protocol, resilience, empty, situation,
                   draw.choice((None, 0, 1, 2, 3, 9)))
        else:
            wishes = ((word, empty, situation),)
            if draw.random() < 0.5:
                wishes = wishes + (("ends", (), drawn_situation(draw, protocol)),)
            yield ("mend", protocol, resilience, wishes, own.drawn_options(draw, protocol),
                   draw.choice((None, 0, 1, 2, 3, 300)))


def is_tree(question, tree):
    return tree_size(question, tree) is not None


def with_factor(claim, m):
    _, word, protocol, resilience, empty, situation, _ = claim
    return word, protocol, resilience + ((1, 0 - m, 0, 1),), empty, situation


def with_choice(claim, choice, at):
    _, protocol, resilience, wishes, options, _ = claim
    word, empty, situation = wishes[at]
    return word, own.changed(protocol, options, choice), resilience, empty, situation


def cost(claim, choice):
    return sum(claim[4][at][-1] for at in choice)


def are_breaks(claim, breaks, below):
    """Whether breaks has a right run for each choice that costs less than so much."""
    broken = [one for one in own.all_choices(claim[4]) if cost(claim, one) < below]
    return len(breaks) == len(broken) and all(
        is_right_run(with_choice(claim, choice, at), run)
        for choice, (at, run) in zip(broken, breaks))


def are_trees(claim, choice, trees):
    return choice in own.all_choices(claim[4]) and len(trees) == len(claim[3]) and all(
        is_tree(with_choice(claim, choice, at), tree) for at, tree in enumerate(trees))


def least_row(claim, verdict, paper):
    m = claim[-1]
    if verdict == "shown" and m is None:
        return 3, is_right_run(with_factor(claim, 9), paper)
    if verdict == "shown":
        tree, run = paper
        less = run is None if m == 0 else is_right_run(with_factor(claim, m - 1), run)
        return 2, less and is_tree(with_factor(claim, m), tree)
    if paper[0] == "less":
        _, k, tree = paper
        return 4, k in range(10) and (m is None or k < m) and is_tree(with_factor(claim, k), tree)
    word, run = paper
    return 5, word == "more" and m is not None and is_right_run(with_factor(claim, m), run)


def mend_row(claim, verdict, paper):
    told = claim[-1]
    if verdict == "shown" and told is None:
        return 7, are_breaks(claim, paper, 1000)
    if verdict == "shown":
        choice, trees, breaks = paper
        return 6, (are_trees(claim, choice, trees) and cost(claim, choice) == told
                   and are_breaks(claim, breaks, told))
    if paper[0] == "less":
        _, choice, trees = paper
        return 8, are_trees(claim, choice, trees) and (told is None or cost(claim, choice) < told)
    word, breaks = paper
    return 9, word == "more" and told is not None and are_breaks(claim, breaks, told + 1)


def judged(certificate):
    """The row of the table that a certificate is of, and whether it is right."""
    verdict, claim, paper = certificate
    if claim[0] == "least":
        return least_row(claim, verdict, paper)
    if claim[0] == "mend":
        return mend_row(claim, verdict, paper)
    if verdict == "shown":
        return 0, is_tree(claim, paper)
    return 1, is_right_run(claim, paper)
