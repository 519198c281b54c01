"""Stage 5: orders of conditions, and the parts into which they cut runs."""

from enoughheard.runs import crowds_along, heard_after


def usable(protocol, order):
    """The indices of the rules that are usable after all conditions of the order."""
    found = []
    for index, rule in enumerate(protocol[3]):
        if all([one in order for one in rule[2]]):
            found.append(index)
    return tuple(found)


def columns(protocol, order):
    """What the columns of an order stand for."""
    found = [("n",), ("t",), ("f",)]
    for location in protocol[2]:
        found.append(("first", location))
    for part in range(len(order) + 1):
        for index in usable(protocol, order[:part]):
            found.append(("take", part, index))
    return tuple(found)


def part_begins(numbers, crowds, order):
    """The least numbers of pairs after which the parts 1, 2, .. can begin, or None."""
    begins = []
    least = 0
    for condition in order:
        heard = heard_after(numbers, crowds, condition)
        if heard is None:
            return None
        least = max(least, heard)
        begins.append(least)
    return tuple(begins)


def part_at(begins, at):
    """The part in which the pair with this index is."""
    return len([begin for begin in begins if begin <= at])


def parts_of(protocol, numbers, crowd, run, order):
    """Before how many pairs the parts of a run begin, or None if it does not follow the order."""
    begins = part_begins(numbers, crowds_along(protocol, numbers, crowd, run), order)
    if begins is None:
        return None
    # Later parts have more usable rules, so that no later beginnings would do
    # where the least ones do not.
    for at, (index, _) in enumerate(run):
        if index not in usable(protocol, order[:part_at(begins, at)]):
            return None
    return begins


def follows(protocol, numbers, crowd, run, order):
    """Whether a run that can be done follows the order."""
    return parts_of(protocol, numbers, crowd, run, order) is not None
