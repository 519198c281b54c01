"""Stage 11: the least factor m with which n >= m t + 1 is enough."""

from enoughheard.numbers import with_factor
from enoughheard.searching import answered

MOST_FACTOR = 9


def factor_answers(word, protocol, resilience, empty, situation, tries):
    """What is answered for the factors 0, 1, .., up to the first with which it is so."""
    found = []
    for m in range(MOST_FACTOR + 1):
        question = (word, protocol, with_factor(resilience, m), empty, situation)
        tree, witness = answered(question, tries)
        found.append((tree, witness))
        if tree is not None:
            return found
    return found


def least_factor(word, protocol, resilience, empty, situation, *, tries=1200):
    """The least factor with which it is so, or None."""
    answers = factor_answers(word, protocol, resilience, empty, situation, tries)
    if answers[-1][0] is None:
        return None
    return len(answers) - 1
