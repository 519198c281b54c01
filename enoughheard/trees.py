"""Trees of weights: their form, and the first of the weights that are none.

A tree is about a question (word, protocol, resilience, empty, situation).
"""

from enoughheard.nodes import conditions_left, own_rows, silent_sets
from enoughheard.solving import are_weights
from enoughheard.systems import next_row, situation_rows, system
from enoughheard.values import are_amounts, is_tuple


def own_systems(question, order):
    """The rows of each of a node's own systems."""
    word, protocol, resilience, empty, situation = question
    rows = system(protocol, resilience, empty, order) + situation_rows(protocol, order, situation)
    return [rows + more for more in own_rows(word, protocol, order)]


def next_system(question, order, condition):
    """The rows of the system of an order with the next row for a condition."""
    _, protocol, resilience, empty, _ = question
    return system(protocol, resilience, empty, order) + (next_row(protocol, order, condition),)


def own_weights(question, node):
    """What a node has in the places of the weights for its own systems."""
    return node[0] if question[0] == "ends" else (node[0],)


def have_form(question, order, weights):
    """Whether a value has the form of the weights for a node's own systems."""
    systems = own_systems(question, order)
    if not is_tuple(weights, len(systems), len(systems)):
        return False
    return all([are_amounts(one, len(rows)) for one, rows in zip(weights, systems)])


def is_branch(question, order, condition, value):
    """Whether value has the form of a branch for a condition."""
    if not is_tuple(value, 2, 2):
        return False
    word, below = value
    if word == "barred":
        return are_amounts(below, len(next_system(question, order, condition)))
    return word == "open" and is_node(question, order + (condition,), below)


def is_node(question, order, value):
    """Whether value has the form of a node of an order."""
    if not is_tuple(value, 2, 2) or not have_form(question, order, own_weights(question, value)):
        return False
    branches = value[1]
    asked = conditions_left(question[1], order)
    if not is_tuple(branches, len(asked), len(asked)):
        return False
    return all([is_branch(question, order, condition, branch)
                for condition, branch in zip(asked, branches)])


def is_tree(question, value):
    """Whether value has the form of a tree."""
    return is_node(question, (), value)


def own_fault(question, order, node):
    """The fault of a node's own weights, or None."""
    word, protocol, _, _, _ = question
    weights = own_weights(question, node)
    for at, rows in enumerate(own_systems(question, order)):
        if not are_weights(rows, weights[at]):
            if word == "avoids":
                return "weights", order
            return "weights", order, silent_sets(protocol)[at]
    return None


def branch_fault(question, order, condition, branch):
    """The first fault of a branch, or None."""
    word, below = branch
    if word == "open":
        return node_fault(question, order + (condition,), below)
    if are_weights(next_system(question, order, condition), below):
        return None
    return "barred", order, condition


def node_fault(question, order, node):
    """The first fault of a node that has its form, or None."""
    fault = own_fault(question, order, node)
    if fault is not None:
        return fault
    for condition, branch in zip(conditions_left(question[1], order), node[1]):
        fault = branch_fault(question, order, condition, branch)
        if fault is not None:
            return fault
    return None


def tree_fault(question, tree):
    """The first fault of what has the form of a tree, or None."""
    return node_fault(question, (), tree)
