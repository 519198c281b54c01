"""What the nodes of a tree of orders are about."""

from enoughheard.protocols import conditions_of
from enoughheard.subsets import subsets
from enoughheard.systems import silent_rows


def conditions_left(protocol, order):
    """The conditions for which a node of this order has branches."""
    return [one for one in conditions_of(protocol) if one not in order]


def silent_sets(protocol):
    """The sets of conditions for which a node of "ends" has weights."""
    return subsets(conditions_of(protocol))


def own_rows(word, protocol, order):
    """What each of a node's own systems has behind the rows of the situation."""
    if word == "avoids":
        return [()]
    return [silent_rows(protocol, order, silent) for silent in silent_sets(protocol)]
