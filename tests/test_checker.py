"""Point 18, with the table of point 17: the checker, and the first fault of a certificate."""

import copy
import unittest

from enoughheard.checker import first_fault
from enoughheard.claims import decide
from tests import own
from tests.asking import left, silent_sets
from tests.helpers import BIG, BROADCAST, HIGH, LOW, NO_TUPLES, ODD, THIRD, put, replaced
from tests.judging import (BEHIND, DECIDED, OPTIONS, ROWS, TOLERATED, UNFORGED, WEAK, WISHES,
                           drawn_claims, judged)

# Values that are no integers from 0 on, no words and no tuples as told, nor None where it may stand.
WRONG = tuple(value for value in ODD if value is None or value != BIG)
WEAK_LOW = (0, (0, 1, 0))


def times(value, many):
    """A part of a paper with each integer in it so many times."""
    if type(value) is tuple:
        return tuple(times(part, many) for part in value)
    return value if type(value) is str or value is None else value * many


def many_times(certificate, many):
    """The certificate with its weights, or its numbers, counts and times, so many times."""
    verdict, claim, paper = certificate

    def grown(witness):
        if witness is None:
            return None
        numbers, firsts, run = witness
        return (times(numbers, many), times(firsts, many),
                tuple((index, taken * many) for index, taken in run))

    def grown_breaks(breaks):
        return tuple((at, grown(witness)) for at, witness in breaks)

    row, _ = judged(certificate)
    if row == 0:
        return verdict, claim, times(paper, many)
    if row in (1, 3):
        return verdict, claim, grown(paper)
    if row == 2:
        return verdict, claim, (times(paper[0], many), grown(paper[1]))
    if row in (4, 8):
        return verdict, claim, paper[:2] + (times(paper[2], many),)
    if row == 5:
        return verdict, claim, (paper[0], grown(paper[1]))
    if row == 6:
        return verdict, claim, (paper[0], times(paper[1], many), grown_breaks(paper[2]))
    if row == 7:
        return verdict, claim, grown_breaks(paper)
    return verdict, claim, (paper[0], grown_breaks(paper[1]))


def nought(weights):
    return (0,) * len(weights)


def tree_places(question, node, order=()):
    """(fault, the tree with weights that are none there) for all weights, in the order told."""
    word, protocol = question[:2]
    weights, branches = node
    if word == "avoids":
        yield ("weights", order), (nought(weights), branches)
    else:
        for at, silent in enumerate(silent_sets(protocol)):
            yield (("weights", order, silent),
                   (put(weights, at, nought(weights[at])), branches))
    for at, condition in enumerate(left(protocol, order)):
        told, below = branches[at]
        if told == "barred":
            yield (("barred", order, condition),
                   (weights, put(branches, at, ("barred", nought(below)))))
        else:
            for fault, other in tree_places(question, below, order + (condition,)):
                yield fault, (weights, put(branches, at, ("open", other)))


class Checking(unittest.TestCase):
    def assert_fault(self, certificate, fault):
        before = copy.deepcopy(certificate)
        found = first_fault(certificate)
        self.assertEqual(found, fault)
        self.assertIs(type(found), type(fault))
        self.assertEqual(certificate, before)

    def assert_paper(self, verdict, claim, paper, fault):
        self.assert_fault((verdict, claim, paper), fault)


class Right(Checking):
    def test_what_decide_returns(self):
        for row, claim, verdict in ROWS:
            found = decide(claim)
            self.assertEqual(judged(found), (row, True))
            self.assert_fault(found, None)
            self.assertEqual(judged(many_times(found, 2)), (row, True))
            self.assert_fault(many_times(found, 2), None)
            self.assert_fault(many_times(found, 10 ** 20), None)

    def test_drawn_claims(self):
        for claim in drawn_claims(80):
            found = decide(claim)
            self.assert_fault(found, None)
            self.assert_fault(many_times(found, 2), None)
            self.assert_fault(many_times(found, 10 ** 20), None)

    def test_other_right_papers(self):
        # A witness of the test's own, a tree with weights of no use, another factor below.
        question = ("avoids", BROADCAST, THIRD, (), DECIDED)
        self.assert_paper("broken", question, ((4, 1, 0), (0, 4, 0, 0), ((0, 3), (0, 1), (3, 2))), None)
        least = ("least", "ends", BROADCAST, TOLERATED, (), BEHIND)
        tree = decide(least + (5,))[2][2]
        four = decide(("ends", BROADCAST, TOLERATED + ((1, -4, 0, 1),), (), BEHIND))[2]
        self.assert_paper("broken", least + (5,), ("less", 3, tree), None)
        self.assert_paper("broken", least + (5,), ("less", 4, four), None)
        self.assert_paper("broken", least + (None,), ("less", 4, four), None)
        # Any choice of the same cost, and wishes that are broken behind the first one.
        options = (("drop", 1, 2), ("drop", 2, 1), ("drop", 1, 2))
        claim = ("mend", WEAK, THIRD, (UNFORGED,), options, 2)
        _, _, (choice, trees, breaks) = decide(claim)
        self.assertEqual(choice, (0,))
        self.assert_paper("shown", claim, ((2,), trees, breaks), None)
        twice = put(claim, 3, (UNFORGED, UNFORGED))
        _, _, (choice, trees, breaks) = decide(twice)
        self.assert_paper("shown", twice, (choice, trees, tuple((1, run) for _, run in breaks)), None)


class Form(Checking):
    def test_no_triple(self):
        verdict, claim, paper = decide(ROWS[0][1])
        for value in NO_TUPLES + ((), (verdict, claim), (verdict, claim, paper, None),
                                  [verdict, claim, paper], {0: verdict, 1: claim, 2: paper}, "abc",
                                  ("shown",), BIG):
            self.assert_fault(value, ("form",))

    def test_no_claim_ahead_of_all_else(self):
        for _, claim, verdict in ROWS:
            paper = decide(claim)[2]
            for wrong in (claim + (0,), claim[:-1], list(claim), None, (), claim[:-1] + (-1,),
                          ("other",) + claim[1:]):
                for told in (verdict, "other", None):
                    self.assert_fault((told, wrong, paper), ("claim",))
                    self.assert_fault((told, wrong, None), ("claim",))
        for value in list(replaced(ROWS[0][1])) + list(replaced(ROWS[15][1])):
            if type(value) is not tuple or value[-1] is not None:
                self.assertEqual(first_fault(("shown", value, ())), ("claim",))

    def test_a_mend_with_no_wishes_is_no_claim(self):
        for cost in (0, 1, None):
            claim = ("mend", BROADCAST, THIRD, (), (("drop", 0, 1),), cost)
            for verdict, paper in (("shown", ((), (), ())), ("broken", ("less", (), ())),
                                   ("shown", ()), ("broken", ("more", ()))):
                self.assert_fault((verdict, claim, paper), ("claim",))

    def test_other_verdicts(self):
        for _, claim, _ in ROWS:
            paper = decide(claim)[2]
            for verdict in (None, True, "", "true", "SHOWN", "showns", ("shown",), ["shown"], 0, {}):
                self.assert_fault((verdict, claim, paper), ("paper",))

    def test_papers_of_other_rows(self):
        papers = [decide(claim)[2] for _, claim, _ in ROWS]
        for row, claim, verdict in ROWS:
            for (other, _, _), paper in zip(ROWS, papers):
                # These have the same form, or may be for the same claim.
                if {row, other} not in ({row}, {1, 3}, {4, 5}, {8, 9}):
                    self.assert_paper(verdict, claim, paper, ("paper",))

    def test_the_other_verdict(self):
        for _, claim, verdict in ROWS:
            paper = decide(claim)[2]
            other = {"shown": "broken", "broken": "shown"}[verdict]
            self.assert_fault((other, claim, paper), ("paper",))

    def test_values_of_any_kind_at_any_depth(self):
        for _, claim, verdict in ROWS:
            paper = decide(claim)[2]
            # In large trees few of these do.
            for value in replaced(paper, WRONG if len(repr(paper)) < 1000 else WRONG[:6:2]):
                self.assertEqual(first_fault((verdict, claim, value)), ("paper",))
            for value in WRONG + (BIG,):
                if value != ():
                    self.assertEqual(first_fault((verdict, claim, value)), ("paper",))

    def test_weights(self):
        for index in (0, 1):
            claim = ROWS[index][1]
            (weights, branches) = decide(claim)[2]
            one = weights if index == 0 else weights[2]
            for wrong in (one[:-1], one + (0,), (), put(one, 0, -1), put(one, 0, True), list(one),
                          put(one, 0, None), put(one, 0, (1,)), None, ("barred", one), (one, ())):
                changed = wrong if index == 0 else put(weights, 2, wrong)
                self.assert_paper("shown", claim, (changed, branches), ("paper",))
        # As many as there are sets.
        for wrong in (weights[:-1], weights + weights[:1], (), weights[0], list(weights)):
            self.assert_paper("shown", claim, (wrong, branches), ("paper",))

    def test_branches(self):
        claim = ROWS[1][1]
        (weights, branches) = decide(claim)[2]
        words = [word for word, _ in branches]
        self.assertEqual(words, ["open", "open"])
        inside = branches[0][1]
        self.assertEqual([word for word, _ in inside[1]], ["open"])
        last = inside[1][0][1]
        self.assertEqual(last[1], ())
        for wrong in (branches[:1], branches + branches[:1], (), branches[0], list(branches), None,
                      (branches[0], None), (branches[0], ("barred", branches[1][1])),
                      (branches[0], ("opened", branches[1][1])), (branches[0], branches[1] + (0,)),
                      (branches[0], branches[1][:1]), (branches[0], list(branches[1])),
                      (branches[0], branches[0][1]), (("open", inside[0]), branches[1]),
                      (("open", weights), branches[1]), (("open", (inside[0], ())), branches[1])):
            self.assert_paper("shown", claim, (weights, wrong), ("paper",))
        deep = (inside[0], (("open", (last[0], inside[1])),))
        self.assert_paper("shown", claim, (weights, (("open", deep), branches[1])), ("paper",))
        for wrong in ((weights,), (weights, branches, ()), [weights, branches], weights, None):
            self.assert_paper("shown", claim, wrong, ("paper",))

    def test_a_barred_branch(self):
        claim = ROWS[0][1]
        (weights, branches) = decide(claim)[2]
        self.assertEqual([word for word, _ in branches], ["barred", "barred"])
        barred = branches[1][1]
        for wrong in (barred[:-1], barred + (0,), (), put(barred, 1, -1), put(barred, 1, False),
                      list(barred), (barred, ())):
            self.assert_paper("shown", claim, (weights, (branches[0], ("barred", wrong))), ("paper",))
        self.assert_paper("shown", claim, (weights, (branches[0], ("open", barred))), ("paper",))

    def test_witnesses(self):
        claim = ROWS[2][1]
        right = decide(claim)[2]
        numbers, firsts, run = right
        for wrong in ((numbers, firsts), right + (0,), list(right), (), None, (firsts, numbers, run)):
            self.assert_paper("broken", claim, wrong, ("paper",))
        for wrong in (numbers[:2], numbers + (0,), (4, 1, -1), (4, True, 1), list(numbers), None,
                      (4, 1, None), (4, 1, (1,))):
            self.assert_paper("broken", claim, (wrong, firsts, run), ("paper",))
        for wrong in (firsts[:-1], firsts + (0,), put(firsts, 3, -1), put(firsts, 3, False),
                      list(firsts), None):
            self.assert_paper("broken", claim, (numbers, wrong, run), ("paper",))
        for wrong in (list(run), None, ((0, 1, 1),), ((0,),), ([0, 1],), ((0, 0),), ((0, -1),),
                      ((0, True),), ((True, 1),), ((-1, 1),), ((4, 1),), ((BIG, 1),), ((0, 1), None),
                      ((0, 1), (0, None)), ((None, 1),), (0, 1), ((0, 1),) * 201):
            self.assert_paper("broken", claim, (numbers, firsts, wrong), ("paper",))

    def test_200_and_201_pairs(self):
        claim = ("avoids", BROADCAST, THIRD, (), DECIDED)
        long = ((0, 1),) * 199 + ((3, 1),)
        right = ((200, 1, 0), (0, 200, 0, 0), long)
        self.assert_paper("broken", claim, right, None)
        self.assert_paper("broken", claim, ((201, 1, 0), (0, 201, 0, 0), ((0, 1),) + long), ("paper",))

    def test_factors_of_a_lesser_tree(self):
        least = ("least", "ends", BROADCAST, TOLERATED, (), BEHIND)
        nine = decide(("ends", BROADCAST, TOLERATED + ((1, -9, 0, 1),), (), BEHIND))[2]
        tree = decide(least + (9,))[2][2]
        for k in (-1, 10, True, False, None, "3", (3,), BIG):
            self.assert_paper("broken", least + (9,), ("less", k, tree), ("paper",))
        self.assert_paper("broken", least + (None,), ("less", 9, nine), None)
        self.assert_paper("broken", least + (9,), ("less", 9, nine), ("less",))
        self.assertEqual(first_fault(("broken", least + (9,), ("less", 0, tree)))[0], "weights")
        for wrong in (("less", 3), ("less", 3, tree, 0), ["less", 3, tree], ("more", 3, tree), (3, tree),
                      ("less", tree, 3), tree, ("less", tree)):
            self.assert_paper("broken", least + (9,), wrong, ("paper",))

    def test_more_needs_an_integer(self):
        least = ("least", "avoids", BROADCAST, TOLERATED, (), DECIDED)
        more = decide(least + (9,))[2]
        self.assertEqual(more[0], "more")
        self.assert_paper("broken", least + (9,), more, None)
        self.assert_paper("broken", least + (None,), more, ("paper",))
        mend = ("mend", WEAK, THIRD, WISHES, OPTIONS[1:])
        more = decide(mend + (300,))[2]
        self.assertEqual(more[0], "more")
        self.assert_paper("broken", mend + (300,), more, None)
        self.assert_paper("broken", mend + (None,), more, ("paper",))
        for wrong in (("more",), more + (0,), list(more), ("less",) + more[1:], more[1:], more[1],
                      ("more", more[1][0])):
            self.assert_paper("broken", mend + (300,), wrong, ("paper",))

    def test_the_run_of_a_least_factor(self):
        nought_claim, three = ROWS[6][1], ROWS[4][1]
        tree, run = decide(nought_claim)[2]
        self.assertIsNone(run)
        other_tree, other_run = decide(three)[2]
        self.assert_paper("shown", nought_claim, (tree, other_run), ("paper",))
        self.assert_paper("shown", three, (other_tree, None), ("paper",))
        self.assert_paper("shown", three, (other_tree,), ("paper",))
        self.assert_paper("shown", three, other_tree, ("paper",))
        self.assert_paper("shown", three, (other_tree, other_run, None), ("paper",))
        self.assert_paper("shown", three, (other_run, other_tree), ("paper",))
        self.assert_paper("shown", three[:-1] + (None,), (other_tree, other_run), ("paper",))
        self.assert_paper("shown", three, other_run, ("paper",))

    def test_choices(self):
        for row in (15, 20):
            _, claim, verdict = ROWS[row]
            right = decide(claim)[2]
            at = 0 if row == 15 else 1
            for wrong in ((3,), (-1,), (True,), (False,), [0], None, 0, (0, 0), (1, 0), (0, None), ((0,),)):
                self.assert_paper(verdict, claim, put(right, at, wrong), ("paper",))
        # Two for the same condition, two for the same rule.
        twice = (("bound", WEAK_LOW, (0, 1, 1), 1), ("bound", WEAK_LOW, (0, 1, 1), 1), ("drop", 3, 1))
        claim = ("mend", WEAK, THIRD, (UNFORGED,), twice, 2)
        word, _, trees = decide(claim)[2]
        for choice, fault in (((0,), None), ((1,), None), ((0, 1), ("paper",))):
            self.assert_paper("broken", claim, (word, choice, trees), fault)

    def test_trees_for_wishes(self):
        for row in (15, 20):
            _, claim, verdict = ROWS[row]
            right = decide(claim)[2]
            at = 1 if row == 15 else 2
            trees = right[at]
            self.assertEqual(len(trees), 2)
            for wrong in (trees[:1], trees + trees[:1], trees[::-1], list(trees), (), trees[0], None):
                self.assert_paper(verdict, claim, put(right, at, wrong), ("paper",))

    def test_breaks(self):
        claim = ROWS[15][1]
        choice, trees, breaks = decide(claim)[2]
        self.assertGreater(len(breaks), 1)
        at, run = breaks[0]
        for wrong in ((2, run), (-1, run), (True, run), (None, run), (at,), (at, run, 0), [at, run], run,
                      (run, at), (at, None), None, (at, run[:2])):
            self.assert_paper("shown", claim, (choice, trees, (wrong,) + breaks[1:]), ("paper",))
            self.assert_paper("shown", claim, (choice, trees, breaks + (wrong,)), ("paper",))
        for wrong in (list(breaks), None, breaks[0], 0):
            self.assert_paper("shown", claim, (choice, trees, wrong), ("paper",))

    def test_the_protocol_at_a_breaks_place(self):
        # With the choice (0,) the protocol has three rules, beyond the choices four.
        options = (("drop", 3, 1), ("drop", 2, 9))
        claim = ("mend", WEAK, THIRD, (("avoids", (), DECIDED),), options, 3)
        word, breaks = decide(claim)[2]
        self.assertEqual((word, len(breaks)), ("more", 2))
        fourth = breaks[1][1][:2] + (breaks[1][1][2] + ((3, 1),),)
        self.assert_paper("broken", claim, (word, (breaks[0], (0, fourth))), ("paper",))
        first = breaks[0][1][:2] + (breaks[0][1][2] + ((3, 1),),)
        self.assertNotEqual(first_fault(("broken", claim, (word, ((0, first), breaks[1])))), ("paper",))
        self.assert_paper("broken", claim, (word, breaks + ((0, fourth),)), ("many",))
        self.assert_paper("broken", claim, (word, breaks + ((0, breaks[1][1][:2] + (((4, 1),),)),)),
                          ("paper",))

    def test_conditions_that_a_choice_makes_one(self):
        # With the choice there is one condition: the tree has the form for one.
        options = (("bound", WEAK_LOW, HIGH[1], 1),)
        claim = ("mend", WEAK, THIRD, (UNFORGED,), options, 1)
        choice, trees, breaks = decide(claim)[2]
        self.assertEqual((choice, len(trees[0][1])), ((0,), 1))
        self.assert_paper("shown", claim, (choice, trees, breaks), None)
        two = decide(("avoids", BROADCAST, THIRD, (1,), DECIDED))[2]
        self.assert_paper("shown", claim, (choice, (two,), breaks), ("paper",))

    def test_the_paper_ahead_of_other_faults(self):
        claim = ROWS[15][1]
        choice, trees, breaks = decide(claim)[2]
        spoiled = (nought(trees[0][0]), trees[0][1])
        self.assert_paper("shown", claim, ((), trees, breaks), ("cost",))
        self.assert_paper("shown", claim, ((), trees, breaks + (None,)), ("paper",))
        self.assert_paper("shown", claim, (choice, (spoiled, trees[1]), breaks + ((9, None),)), ("paper",))


class Trees(Checking):
    def assert_places(self, question, tree, certificate, wrapped=lambda fault: fault):
        places = list(tree_places(question, tree))
        for fault, other in places:
            self.assertEqual(first_fault(certificate(other)), wrapped(fault))
        # Two at once: the first of both counts.
        for first, _ in enumerate(places):
            second = first + 1 + (first * 7) % 3
            if second < len(places):
                fault, once = places[first]
                _, twice = list(tree_places(question, once))[second]
                self.assertEqual(first_fault(certificate(twice)), wrapped(fault))
        return [fault for fault, _ in places]

    def test_the_first_weights_that_are_none(self):
        found = []
        for question in (ROWS[0][1], ROWS[1][1], ("avoids", BROADCAST, THIRD, (), BEHIND[:1] + (
                ((0, 0, 0, 0), (0,), (-3, 9, 0), 0), ((0, 0, 0, 1), (0,), (0, 0, 0), 1)))):
            verdict, _, tree = decide(question)
            self.assertEqual(verdict, "shown")
            found = found + self.assert_places(question, tree, lambda other: ("shown", question, other))
        self.assertIn(("weights", ()), found)
        self.assertIn(("barred", (), LOW), found)
        self.assertIn(("weights", (LOW,), (HIGH,)), found)
        self.assertIn(("weights", (HIGH, LOW), ()), found)

    def test_what_is_open_below_a_branch_comes_before_the_next_one(self):
        question = ROWS[1][1]
        told = [fault for fault, _ in tree_places(question, decide(question)[2])]
        self.assertLess(told.index(("weights", (LOW, HIGH), ())), told.index(("weights", (HIGH,), ())))
        protocol = (3, 2, (0, 1), ((0, 1, (), (0,)), (0, 2, (LOW,), ()), (0, 2, ((1, (1, -1, 0)),), ())))
        question = ("avoids", protocol, THIRD, (), (((0, 0, 1), (0, 0), (0, 0, 0), 1),
                                                    ((0, 0, 0), (-1, 0), (0, 0, 0), 1)))
        verdict, _, tree = decide(question)
        self.assertEqual((verdict, [word for word, _ in tree[1]]), ("shown", ["open", "barred"]))
        found = self.assert_places(question, tree, lambda other: ("shown", question, other))
        self.assertEqual(found, [("weights", ()), ("weights", (LOW,)), ("barred", (LOW,), (1, (1, -1, 0))),
                                 ("barred", (), (1, (1, -1, 0)))])

    def test_other_weights_that_are_none(self):
        question = ROWS[0][1]
        weights, branches = decide(question)[2]
        for at in range(len(weights)):
            more = put(weights, at, weights[at] + 1)
            right = own.weighs(self.rows(question), more)
            self.assert_paper("shown", question, (more, branches), None if right else ("weights", ()))

    def rows(self, question):
        _, protocol, resilience, empty, situation = question
        sums = own.system_sums(protocol, resilience, empty, ())
        return own.as_rows(protocol, (), sums + own.situation_sums(protocol, (), situation))

    def test_drawn_trees(self):
        for claim in drawn_claims(60):
            if claim[0] in ("avoids", "ends") and len(own.conditions(claim[1])) < 3:
                verdict, _, tree = decide(claim)
                if verdict == "shown":
                    self.assert_places(claim, tree, lambda other: ("shown", claim, other))

    def test_trees_of_a_least_factor(self):
        claim = ROWS[4][1]
        tree, run = decide(claim)[2]
        question = ("ends", BROADCAST, TOLERATED + ((1, -3, 0, 1),), (), BEHIND)
        self.assert_places(question, tree, lambda other: ("shown", claim, (other, run)))
        # The tree's fault comes ahead of the run's.
        self.assert_places(question, tree,
                           lambda other: ("shown", claim, (other, ((0, 0, 1), run[1], run[2]))))
        less = claim[:-1] + (5,)
        self.assert_places(question, tree, lambda other: ("broken", less, ("less", 3, other)))
        # Not less comes ahead of the tree.
        self.assert_places(question, tree, lambda other: ("broken", claim, ("less", 3, other)),
                           lambda fault: ("less",))

    def test_a_tree_with_another_factor(self):
        claim = ROWS[4][1]
        tree, run = decide(claim)[2]
        nought_tree = decide(ROWS[6][1])[2][0]
        self.assertEqual(first_fault(("shown", claim[:-1] + (2,), (tree, run)))[0], "weights")
        self.assertEqual(first_fault(("broken", claim[:-1] + (5,), ("less", 2, tree)))[0], "weights")
        self.assertEqual(first_fault(("shown", claim, (nought_tree, run)))[0], "weights")

    def test_trees_of_a_mend(self):
        for row in (15, 20):
            _, claim, verdict = ROWS[row]
            paper = decide(claim)[2]
            place, spot = (0, 1) if row == 15 else (1, 2)
            protocol = own.changed(WEAK, OPTIONS, paper[place])
            for at, (word, empty, situation) in enumerate(WISHES):
                question = (word, protocol, THIRD, empty, situation)
                self.assert_places(
                    question, paper[spot][at],
                    lambda other: (verdict, claim, put(paper, spot, put(paper[spot], at, other))),
                    lambda fault: ("tree", at, fault))
            both = tuple((times(weights, 0), branches) for weights, branches in paper[spot])
            self.assert_paper(verdict, claim, put(paper, spot, both), ("tree", 0, ("weights", ())))


class Witnesses(Checking):
    def assert_witness(self, question, witness, fault):
        self.assert_paper("broken", question, witness, fault)

    def test_numbers_that_do_not_fit(self):
        question = ("avoids", BROADCAST, THIRD, (), DECIDED)
        run = ((0, 3), (3, 2))
        self.assert_witness(question, ((4, 1, 1), (0, 3, 0, 0), run), None)
        for numbers in ((3, 1, 0), (4, 1, 2), (4, 0, 1), (0, 0, 0), (0, 0, 1), (2, 0, 3)):
            self.assert_witness(question, (numbers, (0, 3, 0, 0), run), ("fit",))
        # More liars than members, whatever the rows say.
        loose = put(question, 2, ((0, 0, 0, 0),))
        self.assert_witness(loose, ((1, 0, 2), (0, 0, 0, 0), ()), ("fit",))
        self.assert_witness(loose, ((2, 0, 2), (0, 0, 0, 0), ()), ("situation", 0))

    def test_firsts(self):
        question = ("avoids", BROADCAST, THIRD, (), DECIDED)
        run = ((0, 3), (3, 2))
        for firsts in ((0, 2, 0, 0), (0, 4, 0, 0), (0, 3, 0, 1), (0, 2, 1, 0), (0, 0, 0, 3),
                       (BIG, 0, 0, 0), (0, 0, 0, 0)):
            self.assert_witness(question, ((4, 1, 1), firsts, run), ("firsts",))
        for empty, firsts, right in (((0,), (1, 2, 0, 0), False), ((1,), (1, 2, 0, 0), False),
                                     ((0,), (0, 3, 0, 0), True)):
            self.assert_witness(put(question, 3, empty), ((4, 1, 1), firsts, run),
                                None if right else ("firsts",))

    def test_pairs_that_cannot_be_done(self):
        question = ("avoids", BROADCAST, THIRD, (), DECIDED)
        firsts = (1, 2, 0, 0)
        for run, at in ((((0, 3),), 0), (((1, 1),), 0), (((2, 1),), 0), (((3, 1),), 0),
                        (((0, 1), (1, 2)), 1), (((0, 2), (1, 1), (3, 4)), 2), (((0, 1), (3, 1)), 1),
                        (((0, 1), (0, 1), (0, 1)), 2), (((0, 1), (2, 1)), 1), (((0, 2), (0, BIG)), 1),
                        (((2, 1), (0, 3)), 0)):
            self.assert_witness(question, ((4, 1, 1), firsts, run), ("take", at))
        self.assert_witness(question, ((4, 1, 1), firsts, ((0, 1), (1, 1), (3, 2))), None)

    def test_urged_rules(self):
        question = ("ends", BROADCAST, THIRD, (), DECIDED)
        numbers, firsts = (4, 1, 1), (1, 2, 0, 0)
        for run, rule in (((), 0), (((0, 1),), 0), (((0, 2),), 1), (((0, 2), (1, 1)), 3),
                          (((0, 2), (2, 1)), 3), (((0, 2), (1, 1), (3, 2)), 3)):
            self.assert_witness(question, (numbers, firsts, run), ("urged", rule))
        # Several are urged: the first one is told.
        for run, rule in ((((0, 2),), 0), (((0, 3),), 1), (((0, 3), (1, 1)), 3)):
            self.assert_witness(question, ((4, 1, 0), (1, 3, 0, 0), run), ("urged", rule))
        self.assert_witness(question, (numbers, firsts, ((0, 2), (1, 1), (3, 3))), None)
        # For avoids nobody asks for an end.
        self.assert_witness(("avoids",) + question[1:], (numbers, firsts, ((0, 2), (3, 1))), None)

    def test_situations(self):
        rows = DECIDED + (((0, 0, 1, 0), (0,), (0, 0, 0), 1), ((0, 0, 0, 0), (1,), (-1, 1, 0), 0))
        question = ("avoids", BROADCAST, THIRD, (), rows)
        numbers, firsts = (4, 1, 1), (0, 3, 0, 0)
        for run, index in (((), 0), (((0, 2),), 0), (((0, 2), (3, 2)), 1), (((0, 2), (3, 1)), 2)):
            self.assert_witness(question, (numbers, firsts, run), ("situation", index))
        self.assert_witness(question, (numbers, firsts, ((0, 3), (3, 1))), None)

    def test_two_faults_at_once(self):
        question = ("ends", BROADCAST, THIRD, (1,), DECIDED)
        bad = {"numbers": (3, 1, 1), "firsts": (1, 2, 0, 0), "run": ((0, 1),)}
        self.assert_witness(question, (bad["numbers"], bad["firsts"], bad["run"]), ("fit",))
        self.assert_witness(question, ((4, 1, 1), bad["firsts"], ((3, 1),)), ("firsts",))
        self.assert_witness(question, ((4, 1, 1), (3, 0, 0, 0), bad["run"]), ("take", 0))
        self.assert_witness(put(question, 3, ()), ((4, 1, 1), (0, 3, 0, 0), ((0, 1), (1, 1))), ("take", 1))
        self.assert_witness(put(question, 3, ()), ((4, 1, 1), (0, 3, 0, 0), ()), ("urged", 0))
        self.assert_witness(question, ((4, 1, 1), (3, 0, 0, 0), ()), ("situation", 0))

    def test_runs_of_a_least_factor(self):
        claim = ROWS[4][1]
        tree, (numbers, firsts, run) = decide(claim)[2]
        self.assert_paper("shown", claim, (tree, ((numbers[0] + 99, 0, 0), firsts, run)), ("firsts",))
        self.assert_paper("shown", claim, (tree, ((0, 0, 0), firsts, run)), ("fit",))
        self.assert_paper("shown", claim, (tree, ((4, 1, 1), (3, 0, 0, 0), ())), ("situation", 1))
        self.assert_paper("shown", claim, (tree, ((4, 1, 1), (0, 3, 0, 0), ())), ("urged", 0))
        # n >= 2 t + 1 is asked, not n >= 3 t + 1.
        self.assert_paper("shown", claim, (tree, ((3, 1, 1), (2, 0, 0, 0), ())), ("situation", 1))
        self.assert_paper("shown", claim, (tree, ((2, 1, 1), (1, 0, 0, 0), ())), ("fit",))
        more = claim[:-1] + (2,)
        self.assert_paper("broken", more, ("more", ((3, 1, 1), (2, 0, 0, 0), ())), ("situation", 1))
        self.assert_paper("broken", more, ("more", ((2, 1, 1), (1, 0, 0, 0), ())), ("fit",))
        none = ROWS[8][1]
        self.assert_paper("shown", none, ((9, 1, 1), (8, 0, 0, 0), ()), ("fit",))
        self.assert_paper("shown", none, ((10, 1, 1), (9, 0, 0, 0), ()), ("situation", 0))


class Mends(Checking):
    def setUp(self):
        self.claim = ROWS[15][1]
        self.choice, self.trees, self.breaks = decide(self.claim)[2]

    def spoiled(self, at):
        weights, branches = self.trees[at]
        return put(self.trees, at, (times(weights, 0), branches))

    def test_costs(self):
        # With the same rules: another option that does the same and costs more or less.
        options = (OPTIONS[0], OPTIONS[0][:3] + (5,), OPTIONS[0][:3] + (3,))
        claim = ("mend", WEAK, THIRD, WISHES, options)
        for cost in (3, 4, 5, None):
            for choice, told in (((0,), 4), ((1,), 5), ((2,), 3)):
                fault = None if cost is None or told < cost else ("cost",)
                self.assert_paper("broken", claim + (cost,), ("less", choice, self.trees), fault)
                if cost is not None and told != cost:
                    self.assert_paper("shown", claim + (cost,), (choice, self.trees, ()), ("cost",))

    def test_the_cost_ahead_of_trees_and_breaks(self):
        claim = self.claim[:-1] + (3,)
        for trees in (self.trees, self.spoiled(0), self.spoiled(1)):
            for breaks in (self.breaks, (), self.breaks[:1]):
                self.assert_paper("shown", claim, (self.choice, trees, breaks), ("cost",))
            self.assert_paper("broken", claim, ("less", self.choice, trees), ("cost",))

    def test_trees_ahead_of_how_many_breaks(self):
        for breaks in (self.breaks, (), self.breaks + self.breaks[-1:]):
            for at in (0, 1):
                found = first_fault(("shown", self.claim, (self.choice, self.spoiled(at), breaks)))
                self.assertEqual(found[:2], ("tree", at))
                self.assertEqual(found[2][0], "weights")

    def test_how_many_breaks_ahead_of_their_faults(self):
        at, (numbers, firsts, run) = self.breaks[0]
        wrong = (at, ((0, 0, 9), firsts, run))
        for breaks in ((), self.breaks[:-1], self.breaks + self.breaks[-1:], self.breaks * 3):
            self.assert_paper("shown", self.claim, (self.choice, self.trees, breaks), ("many",))
            if breaks:
                self.assert_paper("shown", self.claim, (self.choice, self.trees, put(breaks, 0, wrong)),
                                  ("many",))

    def test_breaks(self):
        many = len(self.breaks)
        for at, (wish, (numbers, firsts, run)) in enumerate(self.breaks):
            for witness, fault in ((((0, 0, 9), firsts, run), ("fit",)),
                                   ((numbers, put(firsts, 3, 9), run), ("firsts",)),
                                   ((numbers, firsts, ((1, BIG),)), ("take", 0))):
                wrong = put(self.breaks, at, (wish, witness))
                self.assert_paper("shown", self.claim, (self.choice, self.trees, wrong),
                                  ("break", at, fault))
                if at + 1 < many:
                    worse = put(wrong, at + 1, (wish, ((0, 0, 9), firsts, ())))
                    self.assert_paper("shown", self.claim, (self.choice, self.trees, worse),
                                      ("break", at, fault))

    def test_each_break_by_its_wish(self):
        # What breaks the one wish does not break the other one.
        for at, (wish, witness) in enumerate(self.breaks):
            wrong = put(self.breaks, at, (1 - wish, witness))
            found = first_fault(("shown", self.claim, (self.choice, self.trees, wrong)))
            question = self.claim[3][1 - wish]
            self.assertEqual(found[:2], ("break", at))
            self.assertIn(found[2][0], ("firsts", "urged", "situation"), question)

    def test_each_break_by_its_choice(self):
        # The runs of two choices exchanged: in the one a rule is left out.
        options = (("drop", 1, 0), ("drop", 2, 9))
        claim = ("mend", WEAK, THIRD, (("avoids", (), DECIDED),), options, None)
        breaks = decide(claim)[2]
        self.assertEqual(len(breaks), 4)
        run = ((4, 1, 1), (0, 3, 0, 0), ((0, 3), (3, 1)))
        last = ((4, 1, 1), (0, 3, 0, 0), ((0, 3), (2, 1)))
        most = ((4, 1, 1), (0, 3, 0, 0), ((0, 3), (1, 1)))
        # Without the rules 1, both, 2.
        right = ((0, run), (0, last), (0, most), (0, last))
        self.assert_paper("shown", claim, right, None)
        self.assert_paper("shown", claim, put(right, 0, (0, last)), ("break", 0, ("take", 1)))
        self.assert_paper("shown", claim, put(right, 2, (0, last)), ("paper",))
        self.assert_paper("shown", claim, put(right, 1, (0, most)), ("break", 1, ("take", 1)))
        self.assert_paper("shown", claim, right[:3], ("many",))
        # With urged rules for ends; a tree's and a break's index in their own tuples.
        ends = put(claim, 3, (("avoids", (), DECIDED), ("ends", (), DECIDED)))
        self.assert_paper("shown", ends, put(right, 1, (1, last)), ("break", 1, ("urged", 2)))

    def test_all_choices_that_cost_at_most_as_much(self):
        for cost, many in ((0, 1), (1, 1), (2, 3), (3, 3)):
            claim = self.claim[:-1] + (cost,)
            word, breaks = decide(claim)[2]
            self.assertEqual((word, len(breaks)), ("more", many))
            self.assert_paper("broken", claim, ("more", breaks), None)
            self.assert_paper("broken", claim, ("more", breaks[:-1]), ("many",))
            self.assert_paper("broken", claim, ("more", breaks + breaks[-1:]), ("many",))
            self.assert_paper("broken", claim, ("more", put(breaks, 0, (0, ((0, 0, 1), (0,) * 4, ())))),
                              ("break", 0, ("fit",)))


class OneVerdict(Checking):
    def test_papers_for_other_factors_and_costs(self):
        for base, values, true in ((ROWS[4][1][:-1], [None] + list(range(10)), 3),
                                   (ROWS[7][1][:-1], [None] + list(range(10)), None),
                                   (ROWS[15][1][:-1], [None] + list(range(8)) + [300], 4),
                                   (ROWS[18][1][:-1], [None] + list(range(8)) + [300], None)):
            papers = [decide(base + (value,))[2] for value in values]
            for value in values:
                wrong = "broken" if value == true else "shown"
                for paper in papers:
                    self.assertIsNotNone(first_fault((wrong, base + (value,), paper)))

    def test_drawn_claims(self):
        for claim in drawn_claims(60):
            verdict, _, paper = decide(claim)
            others = [paper, many_times((verdict, claim, paper), 3)[2]]
            if claim[0] in ("least", "mend"):
                for value in (None, 0, 1, 2, 5, 9):
                    others.append(decide(claim[:-1] + (value,))[2])
            wrong = "broken" if verdict == "shown" else "shown"
            for other in others:
                self.assertIsNotNone(first_fault((wrong, claim, other)))


if __name__ == "__main__":
    unittest.main()
