"""The errors of the program, each of one kind of failure."""


class InvalidResilience(ValueError):
    """No resilience: index is that of the first row that is none, or None."""

    def __init__(self, index):
        self.index = index


class InvalidProtocol(ValueError):
    """No protocol: part tells the first part that is wrong, or is None."""

    def __init__(self, part):
        self.part = part


class InvalidSituation(ValueError):
    """No situation: index is that of the first row that is none, or None."""

    def __init__(self, index):
        self.index = index


class InvalidOptions(ValueError):
    """No options: index is that of the first that is none, or None."""

    def __init__(self, index):
        self.index = index


class InvalidNumbers(ValueError):
    """No numbers of a hall."""

    def __init__(self):
        pass


class InvalidStarts(ValueError):
    """No starts of a hall: index is that of the first that is none, or None."""

    def __init__(self, index):
        self.index = index


class InvalidClaim(ValueError):
    """No valid claim."""

    def __init__(self):
        pass


class ParseError(ValueError):
    """A text that is no protocol's: line is the index of the line that tells it."""

    def __init__(self, line):
        self.line = line


class UnknownMember(LookupError):
    """A value that is no member of the kind that was asked for."""

    def __init__(self, value):
        self.value = value


class CannotTake(RuntimeError):
    """A run that can't be done: index is that of the first pair that cannot."""

    def __init__(self, index):
        self.index = index


class CannotAct(RuntimeError):
    """A member cannot act by a rule."""

    def __init__(self):
        pass


class CannotDeliver(RuntimeError):
    """A kind cannot be delivered, said or asked for."""

    def __init__(self):
        pass


class Refused(RuntimeError):
    """Deeds that are not done: index and reason tell the first that is wrong."""

    def __init__(self, index, reason):
        self.index = index
        self.reason = reason


class NothingDone(RuntimeError):
    """There is no deed to undo."""

    def __init__(self):
        pass


class LimitExceeded(OverflowError):
    """A search would look at more systems than limit."""

    def __init__(self, limit):
        self.limit = limit
