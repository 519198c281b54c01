"""Values that several tests pass."""

BIG = 123456789012345678901234567890
NO_INTEGERS = (None, True, False, "0", 1.0, (), (1,), [], [1], {})
NO_TUPLES = (None, 0, 1, True, False, "", "rules", [], [0], {}, {0: 1})

LOW = (0, (0, 1, 1))
HIGH = (0, (1, -1, 0))
# The broadcast of the document's examples.
BROADCAST = (4, 1, (0, 1), ((1, 2, (), (0,)), (0, 2, (LOW,), (0,)), (0, 3, (HIGH,), (0,)),
                            (2, 3, (HIGH,), ())))
THIRD = ((1, -3, 0, 1), (0, 1, -1, 0))


def deep(levels):
    """A tuple within a tuple, so many times; copy and == cannot go down there."""
    value = ()
    for _ in range(levels):
        value = (value,)
    return value


def put(whole, at, part):
    """The tuple with another part at its place."""
    return whole[:at] + (part,) + whole[at + 1:]


def is_plain(value):
    """Whether a value is built of plain tuples, integers, booleans, strings and None alone."""
    if type(value) is tuple:
        return all(is_plain(part) for part in value)
    return value is None or type(value) in (int, bool, str)


ODD = (None, True, False, 0.5, -10, BIG, "", "odd", (), (0,), (True, None), [], [0], [[1], {}], {},
       {"a": [1]}, {0: ()}, deep(3000))


def is_odd_in(value, place):
    """Whether a value differs, in its kind too, from what stands at a place."""
    return type(value) is not type(place) or (type(value) is not tuple and value != place)


def replaced(whole, odd=ODD):
    """The tuple with each of its parts, at any depth, replaced by values of other kinds."""
    for value in odd:
        if is_odd_in(value, whole):
            yield value
    if type(whole) is tuple:
        yield list(whole)
        for at, part in enumerate(whole):
            for other in replaced(part, odd):
                yield put(whole, at, other)
