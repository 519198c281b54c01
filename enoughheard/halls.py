"""Stage 14: live halls of members, who hear, say and do one thing after the other."""

from enoughheard.crowds import is_end
from enoughheard.errors import (CannotAct, CannotDeliver, InvalidNumbers, InvalidStarts, NothingDone,
                                Refused, UnknownMember)
from enoughheard.numbers import bound_value
from enoughheard.values import are_amounts, is_tuple, is_whole

MOST_MEMBERS = 40
MOST_DEEDS = 200
# How many parts a deed that begins with the word has.
PARTS = {"act": 3, "deliver": 4, "lie": 4}


def require_numbers(numbers):
    """Raises InvalidNumbers if these are no numbers of a hall."""
    if not are_amounts(numbers, 3):
        raise InvalidNumbers()
    n, _, f = numbers
    if f > n or n > MOST_MEMBERS:
        raise InvalidNumbers()


def require_starts(protocol, right, starts):
    """Raises InvalidStarts if these are no starts of so many right members."""
    if not is_tuple(starts, right, right):
        raise InvalidStarts(None)
    for index, start in enumerate(starts):
        if not is_whole(start, 0, protocol[0] - 1) or start not in protocol[2]:
            raise InvalidStarts(index)


def is_deed(value):
    """Whether value begins with the word of a deed and has as many parts as told."""
    if not is_tuple(value, 3, 4):
        return False
    # Only a string is looked up: other values may be none of a dict's keys.
    return isinstance(value[0], str) and PARTS.get(value[0]) == len(value)


class Hall:
    """The members 0 to n - 1, of whom the last f are liars."""

    def __init__(self, protocol, numbers, starts):
        require_numbers(numbers)
        n, _, f = numbers
        require_starts(protocol, n - f, starts)
        self._protocol = protocol
        self._numbers = numbers
        self._starts = starts
        self._right = n - f
        self._done = []
        self._places = list(starts)
        self._sent = [[False] * protocol[1] for _ in starts]
        # Whom each right member has heard each kind from, and what acts made them
        # forget: one entry for each act, the last one at the end.
        self._heard = [self._silence() for _ in starts]
        self._forgotten = []

    def __len__(self):
        return len(self._done)

    def __eq__(self, other):
        return (isinstance(other, Hall) and self._protocol == other._protocol
                and self._numbers == other._numbers and self._starts == other._starts
                and self._done == other._done)

    def __iadd__(self, other):
        if not is_tuple(other, 0, MOST_DEEDS) or not all([is_deed(deed) for deed in other]):
            raise Refused(-1, None)
        for index, deed in enumerate(other):
            reason = self._tried(deed)
            if reason is not None:
                for _ in range(index):
                    self.undo()
                raise Refused(index, reason)
        return self

    def _silence(self):
        """What somebody has heard whose stay begins."""
        return [{} for _ in range(self._protocol[1])]

    def _require_right(self, member):
        """Raises UnknownMember if it is no right member."""
        if not is_whole(member, 0, self._right - 1):
            raise UnknownMember(member)

    def _is_kind(self, value):
        return is_whole(value, 0, self._protocol[1] - 1)

    def _can_act_by(self, member, index):
        source, _, conditions, _ = self._protocol[3][index]
        if self._places[member] != source:
            return False
        return all([len(self._heard[member][kind]) >= bound_value(bound, self._numbers)
                    for kind, bound in conditions])

    def _hear(self, other, receiver, kind, word):
        """Lets a right member hear a kind from another one, once in its stay."""
        if other in self._heard[receiver][kind]:
            raise CannotDeliver()
        self._heard[receiver][kind][other] = True
        self._done.append((word, other, receiver, kind))

    def _tried(self, deed):
        """Does a deed, or returns the name of the error that it raises."""
        try:
            self._do(deed)
        except UnknownMember:
            return "UnknownMember"
        except CannotAct:
            return "CannotAct"
        except CannotDeliver:
            return "CannotDeliver"
        return None

    def _do(self, deed):
        if deed[0] == "act":
            self.act(deed[1], deed[2])
        elif deed[0] == "deliver":
            self.deliver(deed[1], deed[2], deed[3])
        else:
            self.lie(deed[1], deed[2], deed[3])

    def act(self, member, rule):
        """A right member acts by the rule with this index."""
        self._require_right(member)
        if not is_whole(rule, 0, len(self._protocol[3]) - 1) or not self._can_act_by(member, rule):
            raise CannotAct()
        _, target, _, sends = self._protocol[3][rule]
        self._places[member] = target
        for kind in sends:
            self._sent[member][kind] = True
        self._forgotten.append(self._heard[member])
        self._heard[member] = self._silence()
        self._done.append(("act", member, rule))

    def deliver(self, sender, receiver, kind):
        """What a right member has sent is delivered to a right member."""
        self._require_right(sender)
        self._require_right(receiver)
        if not self._is_kind(kind) or not self._sent[sender][kind]:
            raise CannotDeliver()
        self._hear(sender, receiver, kind, "deliver")

    def lie(self, liar, receiver, kind):
        """A liar says a kind to a right member."""
        if not is_whole(liar, self._right, self._numbers[0] - 1):
            raise UnknownMember(liar)
        self._require_right(receiver)
        if not self._is_kind(kind):
            raise CannotDeliver()
        self._hear(liar, receiver, kind, "lie")

    def spread(self):
        """Delivers all that was sent and is not heard yet; returns how many."""
        many = 0
        for sender in range(self._right):
            for receiver in range(self._right):
                for kind in range(self._protocol[1]):
                    if self._sent[sender][kind] and not self.has_heard(receiver, kind, sender):
                        self.deliver(sender, receiver, kind)
                        many += 1
        return many

    def has_heard(self, member, kind, other):
        """Whether a right member has heard a kind from another one in this stay."""
        return other in self._heard[member][kind]

    def has_sent(self, member, kind):
        """Whether a right member has sent a kind."""
        return self._sent[member][kind]

    def location(self, member):
        """The location of a right member."""
        self._require_right(member)
        return self._places[member]

    def heard(self, member, kind):
        """How many members a right member has heard a kind from in this stay."""
        self._require_right(member)
        if not self._is_kind(kind):
            raise CannotDeliver()
        return len(self._heard[member][kind])

    def can_act(self, member):
        """The indices of the rules by which a right member can act."""
        self._require_right(member)
        rules = range(len(self._protocol[3]))
        return tuple([index for index in rules if self._can_act_by(member, index)])

    def crowd(self):
        """The crowd of the right members."""
        counts = [self._places.count(location) for location in range(self._protocol[0])]
        said = [len([sent for sent in self._sent if sent[kind]])
                for kind in range(self._protocol[1])]
        return tuple(counts), tuple(said)

    def firsts(self):
        """The counts of the first crowd."""
        return tuple([self._starts.count(location) for location in range(self._protocol[0])])

    def run(self):
        """The run that the acts make up."""
        return tuple([(deed[2], 1) for deed in self._done if deed[0] == "act"])

    def is_end(self):
        """Whether the crowd is an end by the hall's numbers."""
        return is_end(self._protocol, self._numbers, self.crowd())

    def deeds(self):
        """All deeds done."""
        return tuple(self._done)

    def twin(self):
        """A hall of its own in which the same was done."""
        other = Hall(self._protocol, self._numbers, self._starts)
        for deed in list(self._done):
            other._do(deed)
        return other

    def undo(self):
        """Undoes the last deed."""
        if self._done == []:
            raise NothingDone()
        deed = self._done.pop()
        if deed[0] == "act":
            _, member, rule = deed
            source, _, _, sends = self._protocol[3][rule]
            self._places[member] = source
            for kind in sends:
                self._sent[member][kind] = False
            self._heard[member] = self._forgotten.pop()
        else:
            _, sender, receiver, kind = deed
            del self._heard[receiver][kind][sender]
