"""Stage 7: situations, rows that may hold in a crowd."""

from enoughheard.errors import InvalidSituation
from enoughheard.sums import products
from enoughheard.values import is_tuple, is_whole


def are_factors(value, many):
    """Whether value is a tuple of so many integers from -9 to 9."""
    return is_tuple(value, many, many) and all([is_whole(part, -9, 9) for part in value])


def is_situation_row(protocol, value):
    """Whether value is a row (counts, said, numbers, constant) of a situation."""
    if not is_tuple(value, 4, 4):
        return False
    many, kinds, _, _ = protocol
    counts, said, numbers, constant = value
    if not are_factors(counts, many) or not are_factors(said, kinds):
        return False
    return are_factors(numbers, 3) and is_whole(constant, 0, 9)


def require_situation(protocol, value):
    """Returns value if it is a situation of the protocol, else raises InvalidSituation."""
    if not is_tuple(value, 1, 4):
        raise InvalidSituation(None)
    for index, row in enumerate(value):
        if not is_situation_row(protocol, row):
            raise InvalidSituation(index)
    return value


def occupied(protocol, locations):
    """The situation in which the locations are occupied together."""
    many, kinds, _, _ = protocol
    rows = []
    for location in locations:
        counts = [int(other == location) for other in range(many)]
        rows.append((tuple(counts), (0,) * kinds, (0, 0, 0), 1))
    return tuple(rows)


def holds(situation, numbers, crowd):
    """Whether a situation holds in a crowd by numbers."""
    for of_counts, of_said, of_numbers, constant in situation:
        total = products(of_counts, crowd[0]) + products(of_said, crowd[1])
        if total + products(of_numbers, numbers) < constant:
            return False
    return True
