"""Stage 13: claims, and the certificates that decide them."""

from enoughheard.errors import (InvalidClaim, InvalidOptions, InvalidProtocol, InvalidResilience,
                                InvalidSituation)
from enoughheard.least import MOST_FACTOR, factor_answers
from enoughheard.mends import all_fulfilled, cost_of, mend_answers, require_options
from enoughheard.numbers import require_resilience
from enoughheard.protocols import require_protocol
from enoughheard.searching import answered
from enoughheard.situations import require_situation
from enoughheard.values import is_set_below, is_tuple, is_whole

WORDS = ("avoids", "ends")
MOST_COST = 300


def check(right):
    """Raises InvalidClaim if it is not right."""
    if not right:
        raise InvalidClaim()


def check_inside(protocol, empty, situation):
    """Raises an error if these are no empty starts or no situation of the protocol."""
    many, _, starts, _ = protocol
    check(is_set_below(empty, many) and all([start in starts for start in empty]))
    check(empty != starts)
    require_situation(protocol, situation)


def check_setting(protocol, resilience, empty, situation):
    """Raises an error if these are no setting."""
    require_protocol(protocol)
    require_resilience(resilience)
    check_inside(protocol, empty, situation)


def check_least(claim):
    """Raises an error if a tuple that begins with "least" is no claim."""
    check(len(claim) == 7)
    _, word, protocol, resilience, empty, situation, m = claim
    check(word in WORDS and (m is None or is_whole(m, 0, MOST_FACTOR)))
    check_setting(protocol, resilience, empty, situation)
    # The row with the factor comes to the others, five in all.
    check(len(resilience) < 5)


def check_mend(claim):
    """Raises an error if a tuple that begins with "mend" is no claim."""
    check(len(claim) == 6)
    _, protocol, resilience, wishes, options, cost = claim
    require_protocol(protocol)
    require_resilience(resilience)
    check(is_tuple(wishes, 1, 3) and all([is_tuple(wish, 3, 3) for wish in wishes]))
    for word, empty, situation in wishes:
        check(word in WORDS)
        check_inside(protocol, empty, situation)
    require_options(protocol, options)
    check(cost is None or is_whole(cost, 0, MOST_COST))


def check_claim(claim):
    """Raises an error if a value of any kind is no claim."""
    check(is_tuple(claim, 5, 7))
    if claim[0] == "least":
        check_least(claim)
    elif claim[0] == "mend":
        check_mend(claim)
    else:
        check(claim[0] in WORDS and len(claim) == 5)
        _, protocol, resilience, empty, situation = claim
        check_setting(protocol, resilience, empty, situation)


def require_claim(claim):
    """Returns claim if it is a valid one, else raises InvalidClaim."""
    try:
        check_claim(claim)
    except (InvalidProtocol, InvalidResilience, InvalidSituation, InvalidOptions):
        raise InvalidClaim() from None
    return claim


def decided_question(claim, tries):
    """The verdict and the paper for a claim of what is avoided or of how they end."""
    tree, witness = answered(claim, tries)
    if tree is None:
        return "broken", witness
    return "shown", tree


def decided_least(claim, tries):
    """The verdict and the paper for a claim of a least factor."""
    _, word, protocol, resilience, empty, situation, m = claim
    answers = factor_answers(word, protocol, resilience, empty, situation, tries)
    last = len(answers) - 1
    tree, witness = answers[last]
    if tree is None and m is None:
        return "shown", witness
    if tree is None or (m is not None and m < last):
        return "broken", ("more", answers[m][1])
    if m is None or last < m:
        return "broken", ("less", last, tree)
    return "shown", (tree, None if m == 0 else answers[m - 1][1])


def decided_mend(claim, tries):
    """The verdict and the paper for a claim of the least cost of a mend."""
    _, protocol, resilience, wishes, options, cost = claim
    answers = mend_answers(protocol, resilience, wishes, options, tries)
    breaks = [(cost_of(options, choice), (len(found) - 1, found[-1][1]))
              for choice, found in answers if not all_fulfilled(found)]
    choice, found = answers[-1]
    mends = all_fulfilled(found)
    if cost is None and not mends:
        return "shown", tuple([broken for _, broken in breaks])
    if not mends or (cost is not None and cost < cost_of(options, choice)):
        return "broken", ("more", tuple([broken for asked, broken in breaks if asked <= cost]))
    trees = tuple([tree for tree, _ in found])
    if cost is None or cost_of(options, choice) < cost:
        return "broken", ("less", choice, trees)
    return "shown", (choice, trees, tuple([broken for asked, broken in breaks if asked < cost]))


def decide(claim, *, tries=1200):
    """A certificate for or against a claim."""
    require_claim(claim)
    if claim[0] == "least":
        verdict, paper = decided_least(claim, tries)
    elif claim[0] == "mend":
        verdict, paper = decided_mend(claim, tries)
    else:
        verdict, paper = decided_question(claim, tries)
    return verdict, claim, paper
