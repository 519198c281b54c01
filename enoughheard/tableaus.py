"""Rows over columns from 0 on, solved step by step in integers.

A tableau writes some amounts, the held ones, as sums of the others, the free ones.
Amounts are what the columns hold, named 0, 1, .., and what the rows have to spare,
their sums less their constants, named -2, -3, ..; -1 is a row of the tableau's own,
the sum of all columns. No amount may be below 0. If with all free amounts 0 a held
one is below 0, it changes places with a free one that makes it greater. If there is
no such one, its line shows by itself that the rows contradict one another. This is
the dual simplex method, which also keeps the sum of all columns small.
"""

from math import gcd, lcm

OWN = -1
PATIENCE = 400


def shortened(scale, line):
    """The scale and the line, divided by what divides all of both."""
    common = scale
    for part in line:
        if common == 1:
            return scale, line
        common = gcd(common, part)
    return scale // common, [part // common for part in line]


class Tableau:
    """Rows, and what satisfies them."""

    def __init__(self):
        # scales[i] times the amount held[i] is lines[i][0] plus the sum of the
        # products of lines[i][1:] and the amounts free[1:].
        self.free = [None]
        self.held = [OWN]
        self.scales = [1]
        self.lines = [[0]]
        self.width = 0
        self.many = 0
        self.clash = None

    def copied(self):
        """A tableau of its own that begins with what this one has."""
        other = Tableau()
        other.free = list(self.free)
        other.held = list(self.held)
        other.scales = list(self.scales)
        # Lines are only replaced as a whole, so that both may have the same ones.
        other.lines = list(self.lines)
        other.width = self.width
        other.many = self.many
        other.clash = self.clash
        return other

    def widen(self, width):
        """Adds columns up to this width; all rows so far have 0 in them."""
        fresh = list(range(self.width, width))
        lines = [line + [0] * len(fresh) for line in self.lines]
        lines[0] = self.lines[0] + [self.scales[0]] * len(fresh)
        self.lines = lines
        self.free = self.free + fresh
        self.width = width

    def add_row(self, row):
        """Adds a row, whose spare amount is held at first."""
        coefficients, constant = row
        asked = [at for at, name in enumerate(self.held) if name >= 0 and coefficients[name] != 0]
        scale = 1
        for at in asked:
            scale = lcm(scale, self.scales[at])
        line = [-constant * scale]
        for name in self.free[1:]:
            line.append(coefficients[name] * scale if name >= 0 else 0)
        for at in asked:
            times = coefficients[self.held[at]] * (scale // self.scales[at])
            line = [one + times * other for one, other in zip(line, self.lines[at])]
        scale, line = shortened(scale, line)
        self.held.append(OWN - 1 - self.many)
        self.scales.append(scale)
        self.lines.append(line)
        self.many = self.many + 1

    def settle(self, patience=PATIENCE):
        """Exchanges amounts until none is below 0 or a line shows a contradiction."""
        exchanges = 0
        while self.clash is None:
            # To take what lacks most is quick, but could go round in a circle;
            # to take the least names cannot.
            at = self.most_lacking() if exchanges < patience else self.first_lacking()
            if at is None:
                return
            place = self.helping(at)
            if place is None:
                self.clash = at
            else:
                self.exchange(at, place)
                exchanges += 1

    def most_lacking(self):
        """The line whose amount is furthest below 0, or None."""
        found = None
        for at, line in enumerate(self.lines):
            if line[0] < 0:
                if found is None:
                    found = at
                elif line[0] * self.scales[found] < self.lines[found][0] * self.scales[at]:
                    found = at
        return found

    def first_lacking(self):
        """The line with the least name of those whose amounts are below 0, or None."""
        found = None
        for at, line in enumerate(self.lines):
            if line[0] < 0 and (found is None or self.held[at] < self.held[found]):
                found = at
        return found

    def helping(self, at):
        """The place of the free amount that adds least to the own row for what it adds, or None."""
        found = None
        line = self.lines[at]
        costs = self.lines[0]
        for place in range(1, len(line)):
            if line[place] > 0:
                if found is None:
                    found = place
                    continue
                here = costs[place] * line[found]
                there = costs[found] * line[place]
                if here < there or (here == there and self.free[place] < self.free[found]):
                    found = place
        return found

    def exchange(self, at, place):
        """Lets the held amount of a line and the free one at a place change places."""
        turned = [-part for part in self.lines[at]]
        turned[place] = self.scales[at]
        self.scales[at] = self.lines[at][place]
        self.lines[at] = turned
        name = self.held[at]
        self.held[at] = self.free[place]
        self.free[place] = name
        for other in range(len(self.lines)):
            if other != at and self.lines[other][place] != 0:
                self.rewrite(other, place, at)

    def rewrite(self, other, place, at):
        """Replaces, in another line, the amount that was at the place by its line."""
        times = self.lines[other][place]
        common = gcd(times, self.scales[at])
        times = times // common
        whole = self.scales[at] // common
        turned = self.lines[at]
        line = [whole * one + times * part for one, part in zip(self.lines[other], turned)]
        line[place] = times * turned[place]
        self.scales[other], self.lines[other] = shortened(whole * self.scales[other], line)

    def numbers(self):
        """Integers for the columns that satisfy the rows, once settled without a contradiction."""
        common = 1
        for at, name in enumerate(self.held):
            if name >= 0:
                common = lcm(common, self.scales[at] // gcd(self.scales[at], self.lines[at][0]))
        found = [0] * self.width
        for at, name in enumerate(self.held):
            if name >= 0:
                found[name] = self.lines[at][0] * common // self.scales[at]
        return tuple(found)

    def weights(self):
        """Weights for the rows, once settled with a contradiction."""
        # The line says that the held amount and some of the free ones together are
        # below 0, whatever the columns hold: a row counts as often as its amount there.
        found = [0] * self.many
        line = self.lines[self.clash]
        for place in range(1, len(line)):
            if self.free[place] < OWN:
                found[OWN - 1 - self.free[place]] = -line[place]
        if self.held[self.clash] < OWN:
            found[OWN - 1 - self.held[self.clash]] = self.scales[self.clash]
        return tuple(found)
