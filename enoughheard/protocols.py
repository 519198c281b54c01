"""Stage 2: protocols, tables of locations and rules."""

from enoughheard.errors import InvalidProtocol
from enoughheard.numbers import is_bound
from enoughheard.values import is_ascending, is_set_below, is_tuple, is_whole


def is_condition(value, kinds):
    """Whether value is a condition (kind, bound) for so many kinds."""
    if not is_tuple(value, 2, 2):
        return False
    kind, bound = value
    return is_whole(kind, 0, kinds - 1) and is_bound(bound)


def is_rule(value, many, kinds):
    """Whether value is a rule for so many locations and kinds."""
    if not is_tuple(value, 4, 4):
        return False
    source, target, conditions, sends = value
    if not is_whole(source, 0, many - 1) or not is_whole(target, 0, many - 1) or source >= target:
        return False
    if not is_tuple(conditions, 0, 2) or not all([is_condition(one, kinds) for one in conditions]):
        return False
    return is_ascending(conditions) and is_set_below(sends, kinds)


def is_sent_twice(many, rules, kind):
    """Whether on some way a kind is sent more than once."""
    # A rule leads to a higher location, so that all ways to a location
    # are counted before the rules that begin there.
    most_sent = [0] * many
    for location in range(many):
        for source, target, _, sends in rules:
            if source == location:
                sent = most_sent[source] + sends.count(kind)
                most_sent[target] = max(most_sent[target], sent)
    return max(most_sent) > 1


def check_rules(many, kinds, rules):
    """Raises InvalidProtocol if rules are none of a protocol, each looked at by itself."""
    if not is_tuple(rules, 0, 8):
        raise InvalidProtocol(("rules",))
    for index, rule in enumerate(rules):
        if not is_rule(rule, many, kinds):
            raise InvalidProtocol(("rule", index))


def require_protocol(value):
    """Returns value if it is a protocol, else raises InvalidProtocol."""
    if not is_tuple(value, 4, 4):
        raise InvalidProtocol(None)
    many, kinds, starts, rules = value
    if not is_whole(many, 1, 5):
        raise InvalidProtocol(("many",))
    if not is_whole(kinds, 0, 2):
        raise InvalidProtocol(("kinds",))
    if not is_set_below(starts, many) or starts == ():
        raise InvalidProtocol(("starts",))
    check_rules(many, kinds, rules)
    for kind in range(kinds):
        if is_sent_twice(many, rules, kind):
            raise InvalidProtocol(("twice", kind))
    if len(conditions_of(value)) > 4:
        raise InvalidProtocol(("conditions",))
    return value


def conditions_of(protocol):
    """The set of all conditions of the rules of a protocol."""
    return tuple(sorted({one for rule in protocol[3] for one in rule[2]}))
