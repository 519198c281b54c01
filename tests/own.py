"""What the document says, worked out once more for the tests, and not as the program does it."""

import itertools
import random

from enoughheard.errors import InvalidProtocol
from enoughheard.protocols import require_protocol

BOUNDS = ((0, 1, 1), (1, -1, 0), (0, 2, 1), (1, -2, 0), (0, 0, 1), (1, 0, 0), (0, 1, 0), (2, -3, 1),
          (-1, 2, 0), (0, -1, 0))


# Crowds and runs, one member after the other.

def value(bound, numbers):
    a, b, c = bound
    return sum((a * numbers[0], b * numbers[1], c))


def heard(numbers, crowd, condition, liars):
    return not crowd[1][condition[0]] + liars < value(condition[1], numbers)


def step(protocol, numbers, crowd, index):
    """The crowd once one more member takes the rule, or None if none can."""
    source, target, conditions, sends = protocol[3][index]
    counts, said = list(crowd[0]), list(crowd[1])
    if not counts[source] or not all(heard(numbers, crowd, one, numbers[2]) for one in conditions):
        return None
    counts[source], counts[target] = counts[source] - 1, counts[target] + 1
    for kind in sends:
        said[kind] = said[kind] + 1
    return tuple(counts), tuple(said)


def behind(protocol, numbers, crowd, run):
    """The crowds behind no pair, behind one, and so on; they end ahead of what can't be done."""
    crowds = [crowd]
    for index, times in run:
        for _ in range(times):
            crowd = step(protocol, numbers, crowd, index)
            if crowd is None:
                return crowds
        crowds.append(crowd)
    return crowds


def first(protocol, firsts):
    return tuple(firsts), tuple(0 for _ in range(protocol[1]))


def all_firsts(protocol, numbers, empty):
    """The counts of all first crowds by the numbers."""
    may = [location for location in protocol[2] if location not in empty]
    for where in itertools.combinations_with_replacement(may, numbers[0] - numbers[2]):
        yield tuple(where.count(location) for location in range(protocol[0]))


def reachable(protocol, numbers, crowd):
    """All crowds to which runs from this one lead."""
    found, ahead = {crowd}, [crowd]
    while ahead:
        here = ahead.pop()
        for index in range(len(protocol[3])):
            there = step(protocol, numbers, here, index)
            if there is not None and there not in found:
                found.add(there)
                ahead.append(there)
    return found


def fit(resilience, numbers):
    n, t, f = numbers
    return f <= n and all(p * n + q * t + r * f >= c for p, q, r, c in resilience)


def small_numbers(resilience, most):
    """All numbers that fit with at most so many members, and as many tolerated liars."""
    for n in range(most + 1):
        for t, f in itertools.product(range(most + 1), range(n + 1)):
            if fit(resilience, (n, t, f)):
                yield n, t, f


def in_situation(situation, numbers, crowd):
    for counts, said, of_numbers, constant in situation:
        factors, amounts = counts + said + of_numbers, crowd[0] + crowd[1] + tuple(numbers)
        if sum(factors[at] * amounts[at] for at in range(len(factors))) < constant:
            return False
    return True


def urges(protocol, numbers, crowd):
    """The rules with somebody in the source who hears all that is asked without liars."""
    return [index for index, rule in enumerate(protocol[3]) if crowd[0][rule[0]]
            and all(heard(numbers, crowd, one, 0) for one in rule[2])]


def comes_into(protocol, resilience, empty, situation, most):
    """Whether by numbers with at most so many members some run leads into the situation, and
    whether one leads to an end in it."""
    comes = ends = False
    for numbers in small_numbers(resilience, most):
        for firsts in all_firsts(protocol, numbers, empty):
            for crowd in reachable(protocol, numbers, first(protocol, firsts)):
                if in_situation(situation, numbers, crowd):
                    comes = True
                    ends = ends or not urges(protocol, numbers, crowd)
                if ends:
                    return True, True
    return comes, ends


# Rows: each is worked out as a number, with 1 in one column and 0 in the others.

def conditions(protocol):
    return sorted(set(one for rule in protocol[3] for one in rule[2]))


def names(protocol, order):
    found = ["n", "t", "f"] + [("first", start) for start in protocol[2]]
    for part in range(len(order) + 1):
        for index, rule in enumerate(protocol[3]):
            if set(rule[2]) <= set(order[:part]):
                found.append(("take", part, index))
    return found


def count_after(protocol, told, location, part):
    total = told.get(("first", location), 0)
    for name in told:
        if name[0] == "take" and name[1] <= part:
            rule = protocol[3][name[2]]
            total = total + told[name] * ((rule[1] == location) - (rule[0] == location))
    return total


def said_after(protocol, told, kind, part):
    return sum(told[name] for name in told if name[0] == "take" and name[1] <= part
               and kind in protocol[3][name[2]][3])


def hearing(protocol, condition, part):
    kind, (a, b, c) = condition
    return (lambda told: said_after(protocol, told, kind, part) + told["f"]
            - a * told["n"] - b * told["t"]), c


def system_sums(protocol, resilience, empty, order):
    """The rows of a system, each as a function of what is in the columns, and a constant."""
    def starts(told):
        return sum(told[("first", start)] for start in protocol[2])

    rows = [(lambda told, row=row: row[0] * told["n"] + row[1] * told["t"] + row[2] * told["f"],
             row[3]) for row in resilience]
    rows.append((lambda told: told["n"] - told["f"], 0))
    rows.append((lambda told: starts(told) - told["n"] + told["f"], 0))
    rows.append((lambda told: told["n"] - told["f"] - starts(told), 0))
    for start in empty:
        rows.append((lambda told, start=start: 0 - told[("first", start)], 0))
    for part in range(len(order) + 1):
        if part:
            rows.append(hearing(protocol, order[part - 1], part - 1))
        for location in range(protocol[0]):
            rows.append((lambda told, location=location, part=part:
                         count_after(protocol, told, location, part), 0))
    return rows


def situation_sums(protocol, order, situation):
    last = len(order)
    return [(lambda told, row=row:
             sum(row[0][place] * count_after(protocol, told, place, last)
                 for place in range(protocol[0]))
             + sum(row[1][kind] * said_after(protocol, told, kind, last)
                   for kind in range(protocol[1]))
             + row[2][0] * told["n"] + row[2][1] * told["t"] + row[2][2] * told["f"], row[3])
            for row in situation]


def silent_sums(protocol, order, silent):
    last = len(order)
    rows = []
    for kind, (a, b, c) in silent:
        rows.append((lambda told, kind=kind, a=a, b=b:
                     a * told["n"] + b * told["t"] - said_after(protocol, told, kind, last), 1 - c))
    for location in range(protocol[0]):
        if any(rule[0] == location and not set(rule[2]) & set(silent) for rule in protocol[3]):
            rows.append((lambda told, location=location:
                         0 - count_after(protocol, told, location, last), 0))
    return rows


def as_rows(protocol, order, sums):
    """Rows with coefficients."""
    columns = names(protocol, order)
    units = [{name: int(name == one) for name in columns} for one in columns]
    return tuple((tuple(function(unit) for unit in units), constant) for function, constant in sums)


def satisfied(rows, values):
    return all(sum(a * x for a, x in zip(row, values)) >= constant for row, constant in rows)


def weighs(rows, weights):
    """Whether the weights show that nothing satisfies the rows."""
    if len(weights) != len(rows) or min(weights) < 0:
        return False
    sums = [sum(row[0][at] * weight for row, weight in zip(rows, weights))
            for at in range(len(rows[0][0]))]
    return max(sums) <= 0 and sum(row[1] * weight for row, weight in zip(rows, weights)) > 0


# Options and choices.

def all_choices(options):
    """All choices of the options, in their order."""
    found = []
    for many in range(len(options) + 1):
        for choice in itertools.combinations(range(len(options)), many):
            places = [tuple(options[at][0:2]) for at in choice]
            if not any(one == other for one, other in itertools.combinations(places, 2)):
                found.append((sum(options[at][-1] for at in choice), choice))
    return [choice for _, choice in sorted(found)]


def changed(protocol, options, choice):
    """The protocol with a choice, condition by condition and rule by rule."""
    rules = []
    for index, (source, target, asked, sends) in enumerate(protocol[3]):
        if any(options[at][:2] == ("drop", index) for at in choice):
            continue
        put = []
        for kind, bound in asked:
            for at in choice:
                if options[at][:2] == ("bound", (kind, bound)):
                    put.append((kind, options[at][2]))
                    break
            else:
                put.append((kind, bound))
        rules.append((source, target, tuple(sorted(set(put))), sends))
    return protocol[:3] + (tuple(rules),)


# Protocols and runs drawn by a seed.

def drawn_protocol(seed, many_conditions):
    """A protocol with so many conditions."""
    draw = random.Random(seed)
    while True:
        many, kinds = draw.randint(2, 5), draw.randint(1 if many_conditions else 0, 2)
        pool = draw.sample([(kind, bound) for kind in range(kinds) for bound in BOUNDS],
                           many_conditions)
        rules = []
        for _ in range(draw.randint(max(1, many_conditions), 8)):
            source, target = sorted(draw.sample(range(many), 2))
            asked = draw.sample(pool, min(len(pool), draw.choice((0, 1, 1, 1, 2))))
            sends = draw.sample(range(kinds), min(kinds, draw.choice((0, 1, 1, 2))))
            rules.append((source, target, tuple(sorted(asked)), tuple(sorted(sends))))
        starts = tuple(sorted(draw.sample(range(many), draw.randint(1, min(3, many)))))
        protocol = (many, kinds, starts, tuple(rules))
        try:
            require_protocol(protocol)
        except InvalidProtocol:
            continue
        if len(conditions(protocol)) == many_conditions:
            return protocol


def drawn_run(draw, protocol, numbers, crowd, pairs):
    """A run of at most so many pairs that can be done from the crowd."""
    run = []
    for _ in range(pairs):
        can = [index for index in range(len(protocol[3]))
               if step(protocol, numbers, crowd, index) is not None]
        if not can:
            break
        index = draw.choice(can)
        times = draw.randint(1, crowd[0][protocol[3][index][0]])
        run.append((index, times))
        crowd = behind(protocol, numbers, crowd, run[-1:])[-1]
    return tuple(run)


def drawn_cases(many):
    """So many (protocol, numbers, firsts, run) with runs that can be done."""
    for seed in range(many):
        draw = random.Random(seed)
        protocol = drawn_protocol(seed, seed % 5)
        numbers = draw.choice(((4, 1, 1), (4, 1, 0), (7, 2, 2), (7, 2, 1), (5, 0, 3), (9, 2, 1)))
        firsts = draw.choice(list(all_firsts(protocol, numbers, ())))
        run = drawn_run(draw, protocol, numbers, first(protocol, firsts), draw.randint(0, 9))
        yield protocol, numbers, firsts, run


def drawn_options(draw, protocol):
    """One to three options, some of them equal, of the same cost or free."""
    known = conditions(protocol)
    options = []
    for _ in range(draw.randint(1, 3)):
        cost = draw.choice((0, 0, 1, 1, 2, 3, 99))
        if known and draw.random() < 0.6:
            options.append(("bound", draw.choice(known), draw.choice(BOUNDS), cost))
        else:
            options.append(("drop", draw.randrange(len(protocol[3])), cost))
    return tuple(options)
