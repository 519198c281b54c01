"""Stage 4: runs, pairs of the index of a rule and how many members take it."""

from enoughheard.crowds import can_hear
from enoughheard.errors import CannotTake


def can_be_done(protocol, numbers, crowd, pair):
    """Whether so many members can take the rule."""
    index, times = pair
    source, _, conditions, _ = protocol[3][index]
    return crowd[0][source] >= times and all([can_hear(numbers, crowd, one) for one in conditions])


def behind_pair(protocol, crowd, pair):
    """The crowd behind a pair that can be done."""
    index, times = pair
    source, target, _, sends = protocol[3][index]
    counts = list(crowd[0])
    counts[source] = counts[source] - times
    counts[target] = counts[target] + times
    said = list(crowd[1])
    for kind in sends:
        said[kind] = said[kind] + times
    return tuple(counts), tuple(said)


def crowds_along(protocol, numbers, crowd, run):
    """The crowds behind no pair of the run, behind one, and so on up to all."""
    crowds = [crowd]
    for at, pair in enumerate(run):
        if not can_be_done(protocol, numbers, crowds[at], pair):
            raise CannotTake(at)
        crowds.append(behind_pair(protocol, crowds[at], pair))
    return crowds


def behind_run(protocol, numbers, crowd, run):
    """The crowd behind a run, or CannotTake for its first pair that cannot be done."""
    return crowds_along(protocol, numbers, crowd, run)[len(run)]


def heard_after(numbers, crowds, condition):
    """The index of the first of the crowds in which a condition can be heard, or None."""
    for at, crowd in enumerate(crowds):
        if can_hear(numbers, crowd, condition):
            return at
    return None


def run_order(protocol, numbers, crowd, run):
    """The own order of a run that can be done."""
    crowds = crowds_along(protocol, numbers, crowd, run)
    asked = sorted({one for index, _ in run for one in protocol[3][index][2]})
    ranked = sorted([(heard_after(numbers, crowds, one), one) for one in asked])
    return tuple([one for _, one in ranked])
