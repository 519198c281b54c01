"""Checks of the form of a value of any kind."""


def is_whole(value, least, most):
    """Whether value is an integer from least to most."""
    # Python counts True and False among the integers, the document does not.
    if isinstance(value, bool) or not isinstance(value, int):
        return False
    return least <= value and value <= most


def is_amount(value):
    """Whether value is an integer from 0 on."""
    return isinstance(value, int) and not isinstance(value, bool) and value >= 0


def is_tuple(value, least, most):
    """Whether value is a plain tuple of least to most parts."""
    return type(value) == tuple and least <= len(value) and len(value) <= most


def are_amounts(value, many):
    """Whether value is a tuple of so many integers from 0 on."""
    return is_tuple(value, many, many) and all([is_amount(part) for part in value])


def is_ascending(parts):
    """Whether the parts of a tuple, which can be ordered, are strictly ascending."""
    return all([low < high for low, high in zip(parts, parts[1:])])


def is_set_below(value, end):
    """Whether value is a set of integers from 0 to end - 1."""
    # Parts are ordered only once all are integers: others may have no order.
    if not is_tuple(value, 0, end) or not all([is_whole(part, 0, end - 1) for part in value]):
        return False
    return is_ascending(value)
