"""Halls worked out once more: what is so is found anew from all deeds done."""

import random

from tests import own

MEMBERS = ("act", "deliver", "lie")


def is_number(value, end):
    return type(value) is int and 0 <= value < end


class Model:
    """What the document says of a hall, from its deeds alone."""

    def __init__(self, protocol, numbers, starts, deeds=()):
        self.protocol, self.numbers, self.starts = protocol, numbers, starts
        self.right = numbers[0] - numbers[2]
        self.done = list(deeds)

    def acts(self, member):
        return [deed for deed in self.done if deed[0] == "act" and deed[1] == member]

    def location(self, member):
        acts = self.acts(member)
        return self.protocol[3][acts[-1][2]][1] if acts else self.starts[member]

    def has_sent(self, member, kind):
        return any(kind in self.protocol[3][deed[2]][3] for deed in self.acts(member))

    def stay(self, member):
        """The deeds done since the member came where it is."""
        begin = 0
        for at, deed in enumerate(self.done):
            if deed[0] == "act" and deed[1] == member:
                begin = at + 1
        return self.done[begin:]

    def heard_from(self, member, kind):
        return sorted(deed[1] for deed in self.stay(member)
                      if deed[0] != "act" and deed[2:] == (member, kind))

    def can_act_by(self, member, rule):
        source, _, conditions, _ = self.protocol[3][rule]
        return self.location(member) == source and all(
            len(self.heard_from(member, kind)) >= own.value(bound, self.numbers)
            for kind, bound in conditions)

    def can_act(self, member):
        return tuple(rule for rule in range(len(self.protocol[3])) if self.can_act_by(member, rule))

    def refusal(self, deed):
        """The name of the error's class and the value that it tells, or None."""
        word, who, *more = deed
        if word == "lie":
            if not (is_number(who, self.numbers[0]) and who >= self.right):
                return "UnknownMember", who
        elif not is_number(who, self.right):
            return "UnknownMember", who
        if word == "act":
            rule, = more
            can = is_number(rule, len(self.protocol[3])) and self.can_act_by(who, rule)
            return None if can else ("CannotAct",)
        receiver, kind = more
        if not is_number(receiver, self.right):
            return "UnknownMember", receiver
        if not is_number(kind, self.protocol[1]) or who in self.heard_from(receiver, kind):
            return ("CannotDeliver",)
        if word == "deliver" and not self.has_sent(who, kind):
            return ("CannotDeliver",)
        return None

    def crowd(self):
        places = [self.location(member) for member in range(self.right)]
        return (tuple(places.count(place) for place in range(self.protocol[0])),
                tuple(sum(self.has_sent(member, kind) for member in range(self.right))
                      for kind in range(self.protocol[1])))

    def firsts(self):
        return tuple(self.starts.count(place) for place in range(self.protocol[0]))

    def run(self):
        return tuple((deed[2], 1) for deed in self.done if deed[0] == "act")

    def undelivered(self):
        return [("deliver", sender, receiver, kind) for sender in range(self.right)
                for receiver in range(self.right) for kind in range(self.protocol[1])
                if self.has_sent(sender, kind) and sender not in self.heard_from(receiver, kind)]


def do(hall, deed):
    """Does a deed; returns what it raised as (name, value), or None."""
    word, *arguments = deed
    try:
        told = {"act": hall.act, "deliver": hall.deliver, "lie": hall.lie}[word](*arguments)
    except Exception as error:
        return (type(error).__name__,) + tuple(vars(error).values())
    assert told is None
    return None


def drawn_deed(draw, protocol, numbers):
    """A deed that may be refused."""
    n, _, f = numbers
    word = draw.choice(MEMBERS)
    if word == "act":
        return word, draw.randrange(-1, n + 1), draw.randrange(-1, len(protocol[3]) + 1)
    return word, draw.randrange(-1, n + 1), draw.randrange(-1, n + 1), draw.randrange(-1, 3)


def likely_deed(draw, model):
    """A deed that is likely to be possible: an act where there is one."""
    n = model.numbers[0]
    if not model.right:
        return "lie", n - 1, 0, 0
    acts = [(member, rule) for member in range(model.right) for rule in model.can_act(member)]
    ahead = model.undelivered()
    roll = draw.random()
    if acts and roll < 0.4:
        return ("act",) + draw.choice(acts)
    if ahead and roll < 0.8:
        return draw.choice(ahead)
    return ("lie", draw.randrange(model.right, n + 1), draw.randrange(model.right),
            draw.randrange(model.protocol[1] + 1))


def drawn_hall(seed):
    """(protocol, numbers, starts) of a hall."""
    draw = random.Random(seed)
    protocol = own.drawn_protocol(seed, seed % 5)
    numbers = draw.choice(((4, 1, 1), (4, 1, 0), (5, 1, 2), (7, 2, 2), (3, 0, 3), (1, 0, 0), (6, 2, 1)))
    starts = tuple(draw.choice(protocol[2]) for _ in range(numbers[0] - numbers[2]))
    return protocol, numbers, starts
