"""Values that several tests pass."""

BIG = 123456789012345678901234567890
NO_INTEGERS = (None, True, False, "0", 1.0, (), (1,), [], [1], {})


def deep(levels):
    """A tuple within a tuple, so many times; copy and == cannot go down there."""
    value = ()
    for _ in range(levels):
        value = (value,)
    return value


def put(whole, at, part):
    """The tuple with another part at its place."""
    return whole[:at] + (part,) + whole[at + 1:]
