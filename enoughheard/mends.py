"""Stage 12: the cheapest changes of a protocol with which all wishes hold."""

from enoughheard.errors import InvalidOptions
from enoughheard.numbers import is_bound
from enoughheard.protocols import conditions_of, is_condition
from enoughheard.searching import answered
from enoughheard.subsets import subsets
from enoughheard.values import is_tuple, is_whole

MOST_COST = 99


def is_condition_of(protocol, value):
    """Whether value is one of the conditions of the protocol."""
    # The form comes first: True would be found where 1 stands.
    return is_condition(value, protocol[1]) and value in conditions_of(protocol)


def is_option(protocol, value):
    """Whether value is an option for the protocol."""
    if not is_tuple(value, 3, 4) or not is_whole(value[-1], 0, MOST_COST):
        return False
    if len(value) == 4:
        word, condition, bound, _ = value
        return word == "bound" and is_condition_of(protocol, condition) and is_bound(bound)
    word, index, _ = value
    return word == "drop" and is_whole(index, 0, len(protocol[3]) - 1)


def require_options(protocol, value):
    """Returns value if it is options for the protocol, else raises InvalidOptions."""
    if not is_tuple(value, 1, 3):
        raise InvalidOptions(None)
    for index, option in enumerate(value):
        if not is_option(protocol, option):
            raise InvalidOptions(index)
    return value


def cost_of(options, choice):
    """The sum of the costs of the options of a choice."""
    return sum([options[index][-1] for index in choice])


def is_choice(options, indices):
    """Whether no two of the options are for the same condition or the same rule."""
    return len({options[index][:2] for index in indices}) == len(indices)


def choices(options):
    """All choices, by cost and then as tuples."""
    found = [one for one in subsets(list(range(len(options)))) if is_choice(options, one)]
    for _, choice in sorted([(cost_of(options, one), one) for one in found]):
        yield choice


def with_choice(protocol, options, choice):
    """The protocol with the bounds that a choice puts, without the rules that it leaves out."""
    many, kinds, starts, rules = protocol
    put = {}
    dropped = []
    for option in [options[index] for index in choice]:
        if option[0] == "bound":
            put[option[1]] = (option[1][0], option[2])
        else:
            dropped.append(option[1])
    kept = []
    for index, (source, target, conditions, sends) in enumerate(rules):
        if index not in dropped:
            changed = tuple(sorted({put.get(one, one) for one in conditions}))
            kept.append((source, target, changed, sends))
    return many, kinds, starts, tuple(kept)


def wish_answers(protocol, resilience, wishes, tries):
    """What is answered for the wishes, up to the first that is not fulfilled."""
    found = []
    for word, empty, situation in wishes:
        tree, witness = answered((word, protocol, resilience, empty, situation), tries)
        found.append((tree, witness))
        if tree is None:
            return found
    return found


def all_fulfilled(answers):
    """Whether none of the wishes that were answered is left unfulfilled."""
    return all([tree is not None for tree, _ in answers])


def mend_answers(protocol, resilience, wishes, options, tries):
    """For each choice, up to the first that mends, the choice and what is answered with it."""
    found = []
    for choice in choices(options):
        changed = with_choice(protocol, options, choice)
        answers = wish_answers(changed, resilience, wishes, tries)
        found.append((choice, answers))
        if all_fulfilled(answers):
            return found
    return found


def cheapest_mend(protocol, resilience, wishes, options, *, tries=1200):
    """The first choice that mends, or None."""
    choice, answers = mend_answers(protocol, resilience, wishes, options, tries)[-1]
    return choice if all_fulfilled(answers) else None
