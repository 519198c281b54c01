"""What is to be checked of a paper.

A check is (front, kind, question, part): part is a "tree" or a "witness" that answers
the question, or a "fault" that is already known; front stands ahead of a fault found.
"""

from enoughheard.least import MOST_FACTOR
from enoughheard.mends import choices, cost_of, with_choice
from enoughheard.numbers import with_factor
from enoughheard.trees import is_tree
from enoughheard.values import is_set_below, is_tuple, is_whole
from enoughheard.witnesses import is_witness


class WrongForm(ValueError):
    """A paper that has the form of none of the rows for its claim and verdict."""

    def __init__(self):
        pass


def require_form(right):
    """Raises WrongForm if it is not right."""
    if not right:
        raise WrongForm()


def tree_check(front, question, value):
    """The check of what has to be a tree."""
    require_form(is_tree(question, value))
    return front, "tree", question, value


def witness_check(front, question, value):
    """The check of what has to be a witness."""
    require_form(is_witness(question[1], value))
    return front, "witness", question, value


def fault_checks(fault, found):
    """The check that tells a fault, if it is found."""
    return [((), "fault", None, fault)] if found else []


def question_checks(claim, verdict, paper):
    """The checks of a paper for a claim of what is avoided or of how they end."""
    if verdict == "shown":
        return [tree_check((), claim, paper)]
    return [witness_check((), claim, paper)]


def factor_question(claim, m):
    """The question of a claim of a least factor, with a factor."""
    _, word, protocol, resilience, empty, situation, _ = claim
    return word, protocol, with_factor(resilience, m), empty, situation


def shown_least_checks(claim, paper):
    """The checks of a paper that shows a claim of a least factor."""
    m = claim[6]
    if m is None:
        return [witness_check((), factor_question(claim, MOST_FACTOR), paper)]
    require_form(is_tuple(paper, 2, 2))
    tree, witness = paper
    checks = [tree_check((), factor_question(claim, m), tree)]
    if m == 0:
        require_form(witness is None)
        return checks
    return checks + [witness_check((), factor_question(claim, m - 1), witness)]


def broken_least_checks(claim, paper):
    """The checks of a paper that breaks a claim of a least factor."""
    m = claim[6]
    if is_tuple(paper, 3, 3):
        word, k, tree = paper
        require_form(word == "less" and is_whole(k, 0, MOST_FACTOR))
        checks = fault_checks(("less",), m is not None and k >= m)
        return checks + [tree_check((), factor_question(claim, k), tree)]
    require_form(is_tuple(paper, 2, 2) and m is not None)
    word, witness = paper
    require_form(word == "more")
    return [witness_check((), factor_question(claim, m), witness)]


def mend_question(claim, choice, at):
    """The question of a wish of a claim of a mend, with a choice."""
    _, protocol, resilience, wishes, options, _ = claim
    word, empty, situation = wishes[at]
    return word, with_choice(protocol, options, choice), resilience, empty, situation


def choice_checks(claim, choice, trees):
    """The checks of a choice of options and of a tree for each wish."""
    wishes, options = claim[3], claim[4]
    require_form(is_set_below(choice, len(options)) and choice in list(choices(options)))
    require_form(is_tuple(trees, len(wishes), len(wishes)))
    return [tree_check(("tree", at), mend_question(claim, choice, at), tree)
            for at, tree in enumerate(trees)]


def break_checks(claim, broken, breaks):
    """The checks of breaks, which should be one for each of the broken choices."""
    require_form(type(breaks) == tuple)
    checks = fault_checks(("many",), len(breaks) != len(broken))
    for at, one in enumerate(breaks):
        require_form(is_tuple(one, 2, 2) and is_whole(one[0], 0, len(claim[3]) - 1))
        # What is beyond them is told by the protocol itself: the choice ().
        choice = broken[at] if at < len(broken) else ()
        question = mend_question(claim, choice, one[0])
        checks.append(witness_check(("break", at), question, one[1]))
    return checks


def cheaper(options, end):
    """The choices that cost less than so much, in their order."""
    return [choice for choice in choices(options) if cost_of(options, choice) < end]


def shown_mend_checks(claim, paper):
    """The checks of a paper that shows a claim of the least cost of a mend."""
    options, cost = claim[4], claim[5]
    if cost is None:
        return break_checks(claim, list(choices(options)), paper)
    require_form(is_tuple(paper, 3, 3))
    choice, trees, breaks = paper
    checks = choice_checks(claim, choice, trees)
    checks = fault_checks(("cost",), cost_of(options, choice) != cost) + checks
    return checks + break_checks(claim, cheaper(options, cost), breaks)


def broken_mend_checks(claim, paper):
    """The checks of a paper that breaks a claim of the least cost of a mend."""
    options, cost = claim[4], claim[5]
    if is_tuple(paper, 3, 3):
        word, choice, trees = paper
        require_form(word == "less")
        checks = choice_checks(claim, choice, trees)
        found = cost is not None and cost_of(options, choice) >= cost
        return fault_checks(("cost",), found) + checks
    require_form(is_tuple(paper, 2, 2) and cost is not None)
    word, breaks = paper
    require_form(word == "more")
    return break_checks(claim, cheaper(options, cost + 1), breaks)


def paper_checks(claim, verdict, paper):
    """What is to be checked of a paper, in the order of the faults, or WrongForm."""
    require_form(verdict in ("shown", "broken"))
    if claim[0] == "least":
        if verdict == "shown":
            return shown_least_checks(claim, paper)
        return broken_least_checks(claim, paper)
    if claim[0] == "mend":
        if verdict == "shown":
            return shown_mend_checks(claim, paper)
        return broken_mend_checks(claim, paper)
    return question_checks(claim, verdict, paper)
