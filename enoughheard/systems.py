"""Stage 6: the rows that tell which runs follow an order."""

from enoughheard.crowds import first_crowd
from enoughheard.orders import columns, part_at, parts_of, usable
from enoughheard.sums import weighted


def columns_after(protocol, order, part):
    """For the crowd after a part: coefficients for each location's count, and for each kind said."""
    names = columns(protocol, order)
    counts = [[0] * len(names) for _ in range(protocol[0])]
    said = [[0] * len(names) for _ in range(protocol[1])]
    for at, name in enumerate(names):
        if name[0] == "first":
            counts[name[1]][at] = 1
        if name[0] == "take" and name[1] <= part:
            source, target, _, sends = protocol[3][name[2]]
            counts[source][at] = -1
            counts[target][at] = 1
            for kind in sends:
                said[kind][at] = 1
    return counts, said


def with_numbers(numbers, coefficients):
    """The coefficients of counts and said with those of n, t and f put in front."""
    return tuple(numbers) + tuple(coefficients[3:])


def negative(coefficients):
    """The coefficients less than 0 by as much as they were more."""
    return [-one for one in coefficients]


def hearing_row(said, condition):
    """The row that says that a condition can be heard."""
    kind, (a, b, c) = condition
    return with_numbers((-a, -b, 1), said[kind]), c


def silent_row(said, condition):
    """The row that says that a condition is not heard."""
    kind, (a, b, c) = condition
    return with_numbers((a, b, 0), negative(said[kind])), 1 - c


def first_rows(protocol, resilience, empty, order):
    """The rows of a system ahead of those of its parts."""
    names = columns(protocol, order)
    none = [0] * len(names)
    right = [int(name[0] == "first") for name in names]
    rows = [(with_numbers((p, q, r), none), c) for p, q, r, c in resilience]
    rows.append((with_numbers((1, 0, -1), none), 0))
    rows.append((with_numbers((-1, 0, 1), right), 0))
    rows.append((with_numbers((1, 0, -1), negative(right)), 0))
    for location in empty:
        rows.append((tuple([-int(name == ("first", location)) for name in names]), 0))
    return rows


def part_rows(protocol, order, part):
    """The rows of a system for one part."""
    rows = []
    if part > 0:
        said = columns_after(protocol, order, part - 1)[1]
        rows.append(hearing_row(said, order[part - 1]))
    for count in columns_after(protocol, order, part)[0]:
        rows.append((tuple(count), 0))
    return rows


def system(protocol, resilience, empty, order):
    """The rows that numbers, first counts and a run that follows the order satisfy."""
    rows = first_rows(protocol, resilience, empty, order)
    for part in range(len(order) + 1):
        rows = rows + part_rows(protocol, order, part)
    return tuple(rows)


def next_row(protocol, order, condition):
    """The row that says that a condition can be heard after the last part."""
    return hearing_row(columns_after(protocol, order, len(order))[1], condition)


def situation_rows(protocol, order, situation):
    """The rows that say that a situation holds after the last part."""
    counts, said = columns_after(protocol, order, len(order))
    rows = []
    for of_counts, of_said, of_numbers, constant in situation:
        total = weighted(counts + said, of_counts + of_said, len(counts[0]))
        rows.append((with_numbers(of_numbers, total), constant))
    return tuple(rows)


def silent_rows(protocol, order, silent):
    """The rows that say that the crowd after the last part is an end, none of silent heard."""
    counts, said = columns_after(protocol, order, len(order))
    rows = [silent_row(said, condition) for condition in silent]
    left = sorted({source for source, _, conditions, _ in protocol[3]
                   if not any([one in silent for one in conditions])})
    for location in left:
        rows.append((tuple(negative(counts[location])), 0))
    return tuple(rows)


def values_of(protocol, numbers, firsts, run, order):
    """The integers that a run which follows the order puts into its columns."""
    begins = parts_of(protocol, numbers, first_crowd(protocol, firsts), run, order)
    n, t, f = numbers
    told = {("n",): n, ("t",): t, ("f",): f}
    for location, count in enumerate(firsts):
        told[("first", location)] = count
    for at, (index, times) in enumerate(run):
        name = ("take", part_at(begins, at), index)
        told[name] = told.get(name, 0) + times
    return tuple([told.get(name, 0) for name in columns(protocol, order)])


def run_of(protocol, order, values):
    """The numbers, first counts and run that integers in the columns tell."""
    told = {}
    for name, value in zip(columns(protocol, order), values):
        told[name] = value
    firsts = tuple([told.get(("first", location), 0) for location in range(protocol[0])])
    run = []
    for part in range(len(order) + 1):
        # A rule leads to a higher location: who is to take a rule has come to
        # its source once all rules with lower sources are taken.
        ranked = sorted([(protocol[3][index][0], index)
                         for index in usable(protocol, order[:part])])
        for _, index in ranked:
            times = told[("take", part, index)]
            if times > 0:
                run.append((index, times))
    return (told[("n",)], told[("t",)], told[("f",)]), firsts, tuple(run)
