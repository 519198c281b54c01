"""Stage 3: crowds, how many members are in each location and have said each kind."""

from enoughheard.numbers import bound_value


def first_crowd(protocol, firsts):
    """The crowd with these counts and nothing said."""
    return firsts, (0,) * protocol[1]


def is_first(protocol, numbers, empty, firsts):
    """Whether firsts are the counts of a first crowd with nobody in the empty starts."""
    n, _, f = numbers
    for location, count in enumerate(firsts):
        if count > 0 and (location not in protocol[2] or location in empty):
            return False
    return sum(firsts) == n - f


def can_hear(numbers, crowd, condition):
    """Whether a condition can be heard, if all liars help."""
    kind, bound = condition
    return crowd[1][kind] + numbers[2] >= bound_value(bound, numbers)


def hears(numbers, crowd, condition):
    """Whether a condition is heard, if no liar helps."""
    kind, bound = condition
    return crowd[1][kind] >= bound_value(bound, numbers)


def rules_with(protocol, numbers, crowd, met):
    """The indices of the rules with somebody in the source and all conditions met."""
    found = []
    for index, (source, _, conditions, _) in enumerate(protocol[3]):
        if crowd[0][source] > 0 and all([met(numbers, crowd, one) for one in conditions]):
            found.append(index)
    return tuple(found)


def can_take(protocol, numbers, crowd):
    """The indices of the rules that can be taken."""
    return rules_with(protocol, numbers, crowd, can_hear)


def urged(protocol, numbers, crowd):
    """The indices of the rules that are urged."""
    return rules_with(protocol, numbers, crowd, hears)


def is_end(protocol, numbers, crowd):
    """Whether a crowd is an end: no rule is urged."""
    return urged(protocol, numbers, crowd) == ()
