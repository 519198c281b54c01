"""Stage 10: whether by no numbers that fit a run leads to an end in a situation."""

from enoughheard.searching import answered


def ends_outside(protocol, resilience, empty, situation, *, tries=1200):
    """Whether protocol, resilience and empty starts end outside the situation."""
    return ending_in(protocol, resilience, empty, situation, tries=tries) is None


def ending_in(protocol, resilience, empty, situation, *, tries=1200):
    """(numbers, firsts, run) of a run to an end in the situation, or None."""
    return answered(("ends", protocol, resilience, empty, situation), tries)[1]


def ending_tree(protocol, resilience, empty, situation, *, tries=1200):
    """A tree that shows that they end outside the situation, or None."""
    return answered(("ends", protocol, resilience, empty, situation), tries)[0]
