"""Stage 16: protocols as texts."""

from enoughheard.errors import InvalidProtocol, ParseError
from enoughheard.protocols import require_protocol

# All integers that a protocol is built of, as they are written.
WHOLES = {"-3": -3, "-2": -2, "-1": -1, "0": 0, "1": 1, "2": 2, "3": 3, "4": 4, "5": 5}


def rule_line(rule):
    """The line of a rule."""
    source, target, conditions, sends = rule
    parts = [f"rule {source} {target}"]
    for kind, (a, b, c) in conditions:
        parts.append(f"hears {kind} {a} {b} {c}")
    for kind in sends:
        parts.append(f"says {kind}")
    return " ".join(parts)


def format_protocol(protocol):
    """The text of a protocol."""
    many, kinds, starts, rules = protocol
    lines = [f"locations {many}", f"kinds {kinds}"]
    lines.append(" ".join(["starts"] + [str(start) for start in starts]))
    lines = lines + [rule_line(rule) for rule in rules]
    return "".join([line + "\n" for line in lines])


def wholes(words):
    """The integers that words stand for, None for a word that stands for none."""
    return tuple([WHOLES.get(word) for word in words])


def rule_of(words):
    """The parts of a rule that the words of a line tell, or None if it is no line of a rule."""
    if words[0] != "rule" or len(words) < 3:
        return None
    source, target = wholes(words[1:3])
    at = 3
    conditions = []
    while at + 5 <= len(words) and words[at] == "hears":
        kind, a, b, c = wholes(words[at + 1:at + 5])
        conditions.append((kind, (a, b, c)))
        at += 5
    sends = []
    while at + 2 <= len(words) and words[at] == "says":
        sends.append(WHOLES.get(words[at + 1]))
        at += 2
    if at < len(words):
        return None
    return source, target, tuple(conditions), tuple(sends)


def with_line(protocol, at, line):
    """The protocol with what the line with this index tells; perhaps it is none any more."""
    many, kinds, starts, rules = protocol
    words = line.split(" ")
    if at == 0 and words[0] == "locations" and len(words) == 2:
        return WHOLES.get(words[1]), kinds, starts, rules
    if at == 1 and words[0] == "kinds" and len(words) == 2:
        return many, WHOLES.get(words[1]), starts, rules
    if at == 2 and words[0] == "starts":
        return many, kinds, wholes(words[1:]), rules
    if at > 2:
        return many, kinds, starts, rules + (rule_of(words),)
    return None


def parse_protocol(text):
    """The protocol of a text, or ParseError."""
    lines = text.split("\n")
    rest = lines.pop()
    # What is not told yet is put so that it fits everything that may be told:
    # lines from which no protocol's text goes on are found where they stand.
    protocol = (1, 0, (0,), ())
    for at, line in enumerate(lines):
        try:
            protocol = require_protocol(with_line(protocol, at, line))
        except InvalidProtocol:
            raise ParseError(at) from None
    if len(lines) < 3 or rest != "":
        raise ParseError(len(lines))
    return protocol
