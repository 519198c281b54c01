"""Stage 9: whether by no numbers that fit a run leads into a situation."""

from enoughheard.searching import answered


def avoids(protocol, resilience, empty, situation, *, tries=1200):
    """Whether protocol, resilience and empty starts avoid the situation."""
    return coming_to(protocol, resilience, empty, situation, tries=tries) is None


def coming_to(protocol, resilience, empty, situation, *, tries=1200):
    """(numbers, firsts, run) of a run into the situation, or None."""
    return answered(("avoids", protocol, resilience, empty, situation), tries)[1]


def avoiding_tree(protocol, resilience, empty, situation, *, tries=1200):
    """A tree that shows that they avoid the situation, or None."""
    return answered(("avoids", protocol, resilience, empty, situation), tries)[0]
