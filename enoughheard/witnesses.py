"""Witnesses (numbers, firsts, run): their form, and the first fault that they have."""

from enoughheard.crowds import first_crowd, is_first, urged
from enoughheard.errors import CannotTake
from enoughheard.numbers import fits
from enoughheard.runs import behind_run
from enoughheard.situations import holds
from enoughheard.values import are_amounts, is_amount, is_tuple, is_whole

MOST_PAIRS = 200


def is_pair(protocol, value):
    """Whether value is a pair of the index of a rule and how many members take it."""
    if not is_tuple(value, 2, 2):
        return False
    index, times = value
    return is_whole(index, 0, len(protocol[3]) - 1) and is_amount(times) and times > 0


def is_run(protocol, value):
    """Whether value is a run, perhaps one that can't be done."""
    return is_tuple(value, 0, MOST_PAIRS) and all([is_pair(protocol, one) for one in value])


def is_witness(protocol, value):
    """Whether value has the form of (numbers, firsts, run)."""
    if not is_tuple(value, 3, 3):
        return False
    numbers, firsts, run = value
    return are_amounts(numbers, 3) and are_amounts(firsts, protocol[0]) and is_run(protocol, run)


def behind_fault(question, numbers, crowd):
    """The first fault of the crowd behind the run, or None."""
    word, protocol, _, _, situation = question
    if word == "ends":
        ahead = urged(protocol, numbers, crowd)
        if ahead != ():
            return "urged", ahead[0]
    for index, row in enumerate(situation):
        if not holds((row,), numbers, crowd):
            return "situation", index
    return None


def witness_fault(question, witness):
    """The first fault of what has the form of a witness, or None."""
    _, protocol, resilience, empty, _ = question
    numbers, firsts, run = witness
    if not fits(resilience, numbers):
        return ("fit",)
    if not is_first(protocol, numbers, empty, firsts):
        return ("firsts",)
    try:
        crowd = behind_run(protocol, numbers, first_crowd(protocol, firsts), run)
    except CannotTake as error:
        return "take", error.index
    return behind_fault(question, numbers, crowd)
