"""Stage 15: replays, runs that are done deed by deed in a hall."""

from enoughheard.halls import Hall
from enoughheard.numbers import bound_value


def starts_of(firsts):
    """The locations of a first crowd's members, ascending."""
    starts = []
    for location, count in enumerate(firsts):
        starts = starts + [location] * count
    return tuple(starts)


def least_member(hall, right, location):
    """The least number of a right member in a location where somebody is."""
    return min([member for member in range(right) if hall.location(member) == location])


def hear(hall, numbers, member, condition):
    """Lets a member hear a kind from as many as a condition asks for, liars last."""
    n, _, f = numbers
    kind, bound = condition
    asked = bound_value(bound, numbers)
    for other in range(n):
        if hall.heard(member, kind) >= asked:
            return
        if other >= n - f:
            if not hall.has_heard(member, kind, other):
                hall.lie(other, member, kind)
        elif hall.has_sent(other, kind) and not hall.has_heard(member, kind, other):
            hall.deliver(other, member, kind)


def replayed(protocol, numbers, firsts, run):
    """A hall in which a run that can be done is done."""
    hall = Hall(protocol, numbers, starts_of(firsts))
    for index, times in run:
        source, _, conditions, _ = protocol[3][index]
        for _ in range(times):
            member = least_member(hall, numbers[0] - numbers[2], source)
            for condition in conditions:
                hear(hall, numbers, member, condition)
            hall.act(member, index)
    return hall
