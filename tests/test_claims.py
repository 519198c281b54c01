"""Point 17, and the limits: claims, and what decides them."""

import copy
import unittest

from enoughheard.avoiding import avoids
from enoughheard.claims import decide, require_claim
from enoughheard.ending import ends_outside
from enoughheard.errors import InvalidClaim, LimitExceeded
from enoughheard.least import least_factor
from enoughheard.mends import cheapest_mend
from tests import own
from tests.asking import NONE_FIT
from tests.helpers import BIG, BROADCAST, NO_INTEGERS, NO_TUPLES, THIRD, is_plain, put, replaced
from tests.judging import (BEHIND, DECIDED, OPTIONS, ROWS, TOGETHER, TOLERATED, UNFORGED, WEAK, WISHES,
                           drawn_claims, judged)

AVOIDS = ("avoids", BROADCAST, THIRD, (1,), DECIDED)
ENDS = ("ends", BROADCAST, THIRD, (), BEHIND)
LEAST = ("least", "ends", BROADCAST, TOLERATED, (), BEHIND, 3)
MEND = ("mend", WEAK, THIRD, WISHES, OPTIONS, 4)
EACH = (AVOIDS, ENDS, LEAST, MEND)
FOUR_ROWS = ((1, -3, 0, 1), (0, 1, -1, 0), (1, 0, 0, 4), (0, 0, 1, 0))


def inner(claim, *tries):
    """What the function that the claim is about says of its parts."""
    kind, *parts = claim
    more = {"tries": tries[0]} if tries else {}
    if kind == "avoids":
        return avoids(*parts, **more)
    if kind == "ends":
        return ends_outside(*parts, **more)
    if kind == "least":
        return least_factor(*parts[:-1], **more)
    return cheapest_mend(*parts[:-1], **more)


def is_true(claim):
    """What the claim says, by the functions that it is about."""
    told = inner(claim)
    if claim[0] == "least":
        return told == claim[-1]
    if claim[0] == "mend":
        asked = None if told is None else sum(claim[4][at][-1] for at in told)
        return asked == claim[-1]
    return told


def exceeds(function, *arguments):
    try:
        function(*arguments)
    except LimitExceeded:
        return True
    return False


class Require(unittest.TestCase):
    def assert_valid(self, claim):
        self.assertIs(require_claim(claim), claim)
        self.assertIs(decide(claim)[1], claim)

    def assert_invalid(self, claim):
        with self.assertRaises(InvalidClaim):
            require_claim(claim)
        with self.assertRaises(InvalidClaim):
            decide(claim)

    def test_claims_are_returned(self):
        for claim in EACH:
            self.assert_valid(claim)
        for m in (None, 0, 1, 9):
            self.assert_valid(LEAST[:-1] + (m,))
        for cost in (None, 0, 1, 299, 300):
            self.assert_valid(MEND[:-1] + (cost,))
        self.assert_valid(put(AVOIDS, 2, FOUR_ROWS + ((0, 0, 0, 0),)))
        self.assert_valid(put(LEAST, 3, FOUR_ROWS))
        self.assert_valid(put(LEAST, 1, "avoids"))
        for many in (1, 2, 3):
            self.assert_valid(put(MEND, 3, (TOGETHER,) * many))
            self.assert_valid(put(MEND, 4, OPTIONS[:many]))
        for empty in ((), (0,), (1,)):
            self.assert_valid(put(AVOIDS, 3, empty))

    def test_other_words_and_lengths(self):
        for claim in EACH:
            for word in ("avoid", "AVOIDS", "", "less", "more", None, 0, ("avoids",), ["avoids"]):
                self.assert_invalid((word,) + claim[1:])
            self.assert_invalid(claim + (0,))
            self.assert_invalid(claim + (None,))
            self.assert_invalid(claim[:-1])
            self.assert_invalid(claim[1:])
            self.assert_invalid(list(claim))
            self.assert_invalid((claim[0],))
            for other in ("avoids", "ends", "least", "mend"):
                if other != claim[0] and {other, claim[0]} != {"avoids", "ends"}:
                    self.assert_invalid((other,) + claim[1:])
        for value in NO_TUPLES + ((), (AVOIDS,), (AVOIDS, ENDS), "claim", BIG):
            self.assert_invalid(value)
        for word in ("least", "mend", "", "avoid", None, 0, True, ("ends",)):
            self.assert_invalid(put(LEAST, 1, word))
            self.assert_invalid(put(MEND, 3, (UNFORGED, (word,) + TOGETHER[1:])))

    def test_invalid_protocols_and_resiliences(self):
        for protocol in (put(BROADCAST, 0, 0), put(BROADCAST, 0, 6), put(BROADCAST, 2, ()),
                         put(BROADCAST, 3, BROADCAST[3] * 3), BROADCAST[:3], None, ()):
            for resilience in ((), None, THIRD * 3, ((1, -3, 0),), ((1, -3, 0, 10),)):
                for claim, at in ((AVOIDS, 1), (ENDS, 1), (LEAST, 2), (MEND, 1)):
                    self.assert_invalid(put(claim, at, protocol))
                    self.assert_invalid(put(claim, at + 1, resilience))
                    self.assert_invalid(put(put(claim, at, protocol), at + 1, resilience))

    def test_empty_starts(self):
        for empty in ((0, 1), (1, 0), (0, 0), (2,), (3,), (0, 2), (-1,), (4,), (True,), (False,), [1],
                      None, 0, (None,), ((1,),), "1", {1: 1}, (0, 1, 2)):
            self.assert_invalid(put(AVOIDS, 3, empty))
            self.assert_invalid(put(ENDS, 3, empty))
            self.assert_invalid(put(LEAST, 4, empty))
            self.assert_invalid(put(MEND, 3, (UNFORGED, put(TOGETHER, 1, empty))))
        three = put(BROADCAST, 2, (0, 1, 3))
        for empty, right in (((0, 3), True), ((1, 3), True), ((3, 1), False), ((0, 1, 3), False),
                             ((0, 2), False), ((0, 1, 2), False)):
            (self.assert_valid if right else self.assert_invalid)(
                ("avoids", three, THIRD, empty, DECIDED))

    def test_situations(self):
        for situation in ((), None, DECIDED * 5, (DECIDED,), (((0, 0, 0), (0,), (0, 0, 0), 1),),
                          (((0, 0, 0, 10), (0,), (0, 0, 0), 1),), (put(DECIDED[0], 3, -1),)):
            for claim, at in ((AVOIDS, 4), (ENDS, 4), (LEAST, 5)):
                self.assert_invalid(put(claim, at, situation))
            self.assert_invalid(put(MEND, 3, (UNFORGED, put(TOGETHER, 2, situation))))

    def test_five_rows_where_a_factor_is_asked(self):
        for five in (FOUR_ROWS + ((0, 0, 0, 0),), FOUR_ROWS + ((1, -4, 0, 1),)):
            self.assert_valid(put(ENDS, 2, five))
            for m in (None, 0, 3):
                self.assert_invalid(put(put(LEAST, 3, five), 6, m))

    def test_factors_and_costs(self):
        for value in NO_INTEGERS[1:] + (-1, 10, BIG, -BIG):
            self.assert_invalid(put(LEAST, 6, value))
        for value in NO_INTEGERS[1:] + (-1, 301, BIG, -BIG):
            self.assert_invalid(put(MEND, 5, value))

    def test_wishes_and_options(self):
        for wishes in ((), (UNFORGED,) * 4, [UNFORGED], UNFORGED, (UNFORGED, None), None,
                       (UNFORGED[:2],), (UNFORGED + (1,),), (list(UNFORGED),)):
            self.assert_invalid(put(MEND, 3, wishes))
        for options in ((), OPTIONS + OPTIONS[:1], list(OPTIONS), OPTIONS[0], (None,), None,
                        (("drop", 4, 1),), (("bound", (0, (0, 1, 1)), (0, 1, 0), 1),),
                        (put(OPTIONS[0], 3, 100),)):
            self.assert_invalid(put(MEND, 4, options))

    def test_values_of_any_kind_at_any_depth(self):
        for claim in EACH + (LEAST[:-1] + (None,), MEND[:-1] + (None,)):
            last = claim[-1]
            for value in replaced(claim):
                if type(value) is tuple and value[:-1] == claim[:-1] and value[-1] is None:
                    if claim[0] in ("least", "mend") and last is not None:
                        self.assertIs(require_claim(value), value)
                        continue
                with self.assertRaises(InvalidClaim):
                    require_claim(value)

    def test_nothing_that_is_passed_is_modified(self):
        for value in ([AVOIDS], list(MEND), {"claim": [1, {}]}, ("avoids", [1], {2: [3]}, [], {})):
            before = copy.deepcopy(value)
            self.assert_invalid(value)
            self.assertEqual(value, before)


class Decide(unittest.TestCase):
    def assert_decided(self, claim, row=None):
        before = copy.deepcopy(claim)
        found = decide(claim)
        self.assertTrue(is_plain(found))
        verdict, told, paper = found
        self.assertIs(told, claim)
        self.assertEqual(decide(claim), found)
        self.assertEqual(verdict, "shown" if is_true(claim) else "broken")
        self.assertEqual(judged(found), (judged(found)[0] if row is None else row, True))
        self.assertEqual(claim, before)
        return found

    def test_each_row_of_the_table(self):
        self.assertEqual({row for row, _, _ in ROWS}, set(range(10)))
        for row, claim, verdict in ROWS:
            self.assertEqual(self.assert_decided(claim, row)[0], verdict)

    def test_where_no_numbers_fit(self):
        for resilience in NONE_FIT:
            self.assertEqual(self.assert_decided(put(AVOIDS, 2, resilience))[0], "shown")
            self.assertEqual(self.assert_decided(put(ENDS, 2, resilience))[0], "shown")
            self.assertEqual(self.assert_decided(put(put(LEAST, 3, resilience), 6, 0))[0], "shown")
            self.assertEqual(self.assert_decided(put(put(MEND, 2, resilience), 5, 0))[0], "shown")

    def test_all_factors_and_costs(self):
        for m in [None] + list(range(10)):
            self.assertEqual(self.assert_decided(put(LEAST, 6, m))[0],
                             "shown" if m == 3 else "broken")
        for cost in [None] + list(range(11)) + [299, 300]:
            self.assertEqual(self.assert_decided(put(MEND, 5, cost))[0],
                             "shown" if cost == 4 else "broken")

    def test_choices_of_the_same_cost(self):
        options = (("drop", 2, 2), ("drop", 1, 2), ("drop", 0, 2))
        _, _, (choice, trees, breaks) = self.assert_decided(
            ("mend", WEAK, THIRD, (UNFORGED,), options, 2), 6)
        self.assertEqual((choice, len(trees), len(breaks)), ((1,), 1, 1))
        _, _, (_, breaks) = self.assert_decided(("mend", WEAK, THIRD, (UNFORGED,), options, 1), 9)
        self.assertEqual(len(breaks), 1)

    def test_drawn_claims(self):
        rows = []
        for claim in drawn_claims(120):
            rows.append(judged(self.assert_decided(claim))[0])
        for row in range(10):
            self.assertIn(row, rows)

    def test_limits(self):
        claims = [claim for _, claim, _ in ROWS] + list(drawn_claims(24))
        for claim in claims:
            right = decide(claim)
            least = -2
            while exceeds(inner, claim, least):
                with self.assertRaises(LimitExceeded) as caught:
                    decide(claim, tries=least)
                self.assertEqual(caught.exception.limit, least)
                least = least + 1
            # At least one system is looked at for each claim.
            self.assertGreater(least, 0)
            for tries in (least, least + 1, 5000):
                self.assertEqual(decide(claim, tries=tries), right)

    def test_an_invalid_claim_ahead_of_the_limit(self):
        for claim in EACH:
            with self.assertRaises(InvalidClaim):
                decide(claim[:-1] + (-1,), tries=1)

    def test_never_by_default(self):
        for seed in range(8):
            protocol = own.drawn_protocol(seed, 4)
            situation = (((0,) * (protocol[0] - 1) + (1,), (0,) * protocol[1], (0, 0, 0), 1),)
            for claim in (("ends", protocol, THIRD, (), situation),
                          ("least", "ends", protocol, TOLERATED, (), situation, 2),
                          ("mend", protocol, THIRD, (("ends", (), situation),) * 3,
                           (("drop", 0, 1), ("drop", 0, 2)), 2)):
                self.assertIs(decide(claim)[1], claim)


if __name__ == "__main__":
    unittest.main()
