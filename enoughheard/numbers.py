"""Stage 1: numbers (n, t, f), bounds and resiliences."""

from enoughheard.errors import InvalidResilience
from enoughheard.values import is_tuple, is_whole


def is_bound(value):
    """Whether value is a bound (a, b, c)."""
    if not is_tuple(value, 3, 3):
        return False
    a, b, c = value
    return is_whole(a, -3, 3) and is_whole(b, -3, 3) and is_whole(c, 0, 1)


def bound_value(bound, numbers):
    """The value of a bound by numbers."""
    a, b, c = bound
    n, t, _ = numbers
    return a * n + b * t + c


def is_resilience_row(value):
    """Whether value is a row (p, q, r, c) of a resilience."""
    if not is_tuple(value, 4, 4):
        return False
    return all([is_whole(part, -9, 9) for part in value[:3]]) and is_whole(value[3], 0, 9)


def require_resilience(value):
    """Returns value if it is a resilience, else raises InvalidResilience."""
    if not is_tuple(value, 1, 5):
        raise InvalidResilience(None)
    for index, row in enumerate(value):
        if not is_resilience_row(row):
            raise InvalidResilience(index)
    return value


def fits(resilience, numbers):
    """Whether numbers fit a resilience."""
    n, t, f = numbers
    return n >= f and all([p * n + q * t + r * f >= c for p, q, r, c in resilience])


def with_factor(resilience, m):
    """The resilience with the factor m: n >= m t + 1 behind its rows."""
    return resilience + ((1, -m, 0, 1),)
