"""Point 21: protocols as texts."""

import itertools
import unittest

from enoughheard.errors import ParseError
from enoughheard.texts import format_protocol, parse_protocol
from tests import own
from tests.helpers import BROADCAST, LOW, is_plain, put

TEXT = ("locations 4\nkinds 1\nstarts 0 1\nrule 1 2 says 0\nrule 0 2 hears 0 0 1 1 says 0\n"
        "rule 0 3 hears 0 1 -1 0 says 0\nrule 2 3 hears 0 1 -1 0\n")
HEAD = "locations 4\nkinds 2\nstarts 0 1\n"
RULE = "rule 0 2 hears 0 0 1 1 hears 1 -2 3 0 says 0 says 1\n"


def written(protocol):
    """The text of a protocol, word by word."""
    many, kinds, starts, rules = protocol
    words = ["locations", many, "\n", "kinds", kinds, "\n", "starts", *starts, "\n"]
    for source, target, conditions, sends in rules:
        words = words + ["rule", source, target]
        for kind, bound in conditions:
            words = words + ["hears", kind, *bound]
        for kind in sends:
            words = words + ["says", kind]
        words.append("\n")
    return " ".join(map(str, words)).replace(" \n ", "\n").replace(" \n", "\n")


class Format(unittest.TestCase):
    def assert_read_back(self, protocol):
        text = format_protocol(protocol)
        self.assertIs(type(text), str)
        self.assertEqual(text, written(protocol))
        found = parse_protocol(text)
        self.assertEqual(found, protocol)
        self.assertTrue(is_plain(found))

    def test_the_example(self):
        self.assertEqual(format_protocol((2, 1, (0,), ((0, 1, ((0, (0, 1, 1)),), (0,)),))),
                         "locations 2\nkinds 1\nstarts 0\nrule 0 1 hears 0 0 1 1 says 0\n")
        self.assertEqual(format_protocol(BROADCAST), TEXT)
        self.assertEqual(parse_protocol(TEXT), BROADCAST)

    def test_each_is_read_back(self):
        both = ((0, (-3, -3, 1)), (1, (3, 3, 0)))
        for protocol in (BROADCAST, (1, 0, (0,), ()), (5, 2, (0, 1, 2, 3, 4), ()), (3, 0, (1, 2), ()),
                         (2, 0, (0,), ((0, 1, (), ()),) * 8), (2, 2, (1,), ((0, 1, both, (0, 1)),)),
                         (5, 2, (4,), ((0, 4, both[1:], (1,)), (3, 4, both[:1], ()), (1, 4, (), (0,)))),
                         (2, 1, (0,), ((0, 1, ((0, (-1, -2, 0)), (0, (0, 0, 0))), ()),))):
            self.assert_read_back(protocol)

    def test_all_bounds(self):
        for a, b, c in itertools.product(range(-3, 4), range(-3, 4), (0, 1)):
            self.assert_read_back((2, 1, (0,), ((0, 1, ((0, (a, b, c)),), ()),)))

    def test_drawn_protocols(self):
        for seed in range(200):
            self.assert_read_back(own.drawn_protocol(seed, seed % 5))

    def test_by_names(self):
        self.assertEqual(parse_protocol(text=format_protocol(protocol=BROADCAST)), BROADCAST)


class Parse(unittest.TestCase):
    def assert_line(self, text, line):
        with self.assertRaises(ParseError) as caught:
            parse_protocol(text)
        self.assertEqual(caught.exception.line, line, text)
        self.assertIs(type(caught.exception.line), int)

    def assert_rule(self, rule, head=HEAD):
        """No rule on the fourth line, whatever follows."""
        for more in ("", RULE, "\n", "x", "rule 0 1\nx\n"):
            self.assert_line(head + rule + "\n" + more, 3)
        # A line ends with a line end: without one it is not looked at.
        self.assert_line(head + rule, 3)

    def test_texts_that_end_too_soon(self):
        self.assert_line("", 0)
        self.assert_line("locations 4", 0)
        self.assert_line("locations 4\n", 1)
        self.assert_line("locations 4\nkinds 2", 1)
        self.assert_line("locations 4\nkinds 2\n", 2)
        self.assert_line("locations 4\nkinds 2\nstarts 0", 2)
        self.assertEqual(parse_protocol("locations 4\nkinds 2\nstarts 0\n"), (4, 2, (0,), ()))

    def test_a_missing_line_end(self):
        many = TEXT.count("\n")
        for cut in range(len(TEXT)):
            text = TEXT[:cut]
            if not text.endswith("\n") or text.count("\n") < 3:
                self.assert_line(text, text.count("\n"))
            else:
                self.assertEqual(parse_protocol(text)[3], BROADCAST[3][:text.count("\n") - 3])
        for more in ("x", " ", "\t", "\r", "rule 0 1", "\x00", "locations 4"):
            self.assert_line(TEXT + more, many)

    def test_lines_left_out_doubled_and_exchanged(self):
        lines = TEXT.splitlines(keepends=True)
        for at in (0, 1, 2):
            self.assert_line("".join(lines[:at] + lines[at + 1:]), at)
            self.assert_line("".join(lines[:at + 1] + lines[at:]), at + 1)
            self.assert_line("".join(lines[:at] + [lines[at + 1], lines[at]] + lines[at + 2:]), at)
        self.assert_line("".join(lines[3:]), 0)
        # A rule may be left out or stand twice, if no kind is sent twice on a way.
        self.assertEqual(parse_protocol("".join(lines[:4] + lines[3:]))[3],
                         BROADCAST[3][:1] + BROADCAST[3])
        self.assertEqual(len(parse_protocol("".join(lines[:4] + lines[5:]))[3]), 3)
        for word in ("locations 4\n", "kinds 1\n", "starts 0\n"):
            self.assert_line(TEXT + word, 7)
            self.assert_line("".join(lines[:5]) + word + "".join(lines[5:]), 5)

    def test_empty_lines_and_spaces(self):
        lines = TEXT.splitlines()
        for at in range(len(lines)):
            for wrong in ("", " " + lines[at], lines[at] + " ", lines[at].replace(" ", "  ", 1),
                          lines[at].replace(" ", "\t", 1), lines[at] + "\r", "\t" + lines[at],
                          lines[at] + "\t", lines[at].upper(), lines[at].replace(" ", "", 1),
                          lines[at].replace(" ", "\u00a0", 1), lines[at] + "\x00", "\ufeff" + lines[at],
                          lines[at] + "\u2028", lines[at] + "\x0b", lines[at] + "x", lines[at] + " x",
                          lines[at].replace(" ", "\r", 1), "#" + lines[at]):
                self.assert_line("\n".join(lines[:at] + [wrong] + lines[at + 1:]) + "\n", at)
                if wrong != "":
                    self.assert_line("\n".join(lines[:at] + [wrong]) + "\n", at)
            self.assert_line("\n".join(lines[:at] + [""] + lines[at:]) + "\n", at)
        self.assert_line(TEXT + "\n", 7)
        self.assert_line("\n", 0)
        self.assert_line(TEXT.replace("\n", "\r\n"), 0)
        self.assert_line(TEXT.replace("\n", "\r"), 0)

    def test_numbers_that_are_none(self):
        for wrong in ("-0", "+1", "00", "01", "-01", "1.0", "", "-", "--1", "1_0", "x", "True", "None",
                      "\u0661", "\uff11", "\u00b9", "1e0", "0x1", "9" * 5000, "-" + "9" * 5000, "0" * 5000):
            self.assert_line(f"locations {wrong}\n", 0)
            self.assert_line(f"locations 4\nkinds {wrong}\n", 1)
            self.assert_line(f"locations 4\nkinds 2\nstarts {wrong}\n", 2)
            self.assert_line(f"locations 4\nkinds 2\nstarts 0 {wrong}\n", 2)
            for rule in (f"rule {wrong} 2", f"rule 0 {wrong}", f"rule 0 2 hears {wrong} 0 1 1",
                         f"rule 0 2 hears 0 {wrong} 1 1", f"rule 0 2 hears 0 0 {wrong} 1",
                         f"rule 0 2 hears 0 0 1 {wrong}", f"rule 0 2 says {wrong}",
                         f"rule 0 2 says 0 says {wrong}"):
                self.assert_rule(rule)

    def test_numbers_out_of_their_limits(self):
        for many in (-1, 0, 6, 10):
            self.assert_line(f"locations {many}\nkinds 0\nstarts 0\n", 0)
        for kinds in (-1, 3, 10):
            self.assert_line(f"locations 4\nkinds {kinds}\nstarts 0\n", 1)
        for starts in ("4", "-1", "0 4", "1 0", "0 0", "0 1 1", "0 2 1", "0 1 2 3 4"):
            self.assert_line(f"locations 4\nkinds 0\nstarts {starts}\n", 2)
        self.assert_line("locations 4\nkinds 0\nstarts\n", 2)
        for rule in ("rule 0 4", "rule 4 5", "rule 2 2", "rule 2 1", "rule -1 2", "rule 0 2 hears 2 0 0 0",
                     "rule 0 2 hears -1 0 0 0", "rule 0 2 hears 0 4 0 0", "rule 0 2 hears 0 -4 0 0",
                     "rule 0 2 hears 0 0 4 0", "rule 0 2 hears 0 0 -4 0", "rule 0 2 hears 0 0 0 2",
                     "rule 0 2 hears 0 0 0 -1", "rule 0 2 says 2", "rule 0 2 says -1"):
            self.assert_rule(rule)
        self.assert_rule("rule 0 2 says 0", "locations 3\nkinds 0\nstarts 0\n")
        self.assert_rule("rule 0 2", "locations 2\nkinds 0\nstarts 0\n")
        self.assert_rule("rule 0 2 hears 1 0 0 0", "locations 3\nkinds 1\nstarts 0\n")

    def test_parts_that_are_too_many_or_too_few(self):
        for line in ("locations", "locations 4 4", "location 4", "4", "locations 4 ", "kinds 4"):
            self.assert_line(line + "\nkinds 0\nstarts 0\n", 0)
        for line in ("kinds", "kinds 1 1", "kind 1", "kinds 1 ", "locations 1"):
            self.assert_line("locations 4\n" + line + "\nstarts 0\n", 1)
        for line in ("start 0", "start", "starts 0 ", "starts  0", "rule 0 1", "0"):
            self.assert_line("locations 4\nkinds 1\n" + line + "\n", 2)
        for rule in ("rule", "rule 0", "rules 0 2", "0 2", "rule 0 2 3", "rule 0 2 0", "rule 0 2 hears",
                     "rule 0 2 hears 0", "rule 0 2 hears 0 0 1", "rule 0 2 hears 0 0 1 1 1",
                     "rule 0 2 hear 0 0 1 1", "rule 0 2 says", "rule 0 2 says 0 1", "rule 0 2 say 0",
                     "rule 0 2 says 0 hears 0 0 1 1", "rule 0 2 hears says 0", "rule hears 0 0 1 1",
                     "rule 0 2 hears 0 0 1 1 says", "rule 0 2 hears 0 0 1 1 hears", "rule 0 2 says 0 says"):
            self.assert_rule(rule)

    def test_sets_that_do_not_ascend(self):
        for rule in ("rule 0 2 says 1 says 0", "rule 0 2 says 0 says 0", "rule 0 2 says 0 says 1 says 1",
                     "rule 0 2 hears 0 0 1 1 hears 0 0 1 1", "rule 0 2 hears 1 0 1 1 hears 0 0 1 1",
                     "rule 0 2 hears 0 0 1 1 hears 0 0 1 0", "rule 0 2 hears 0 0 0 0 hears 0 -1 0 0",
                     "rule 0 2 hears 0 0 0 0 hears 0 0 0 1 hears 0 0 1 0"):
            self.assert_rule(rule)

    def test_a_ninth_rule(self):
        lines = "rule 0 1\n" * 8
        self.assertEqual(len(parse_protocol(HEAD + lines)[3]), 8)
        for ninth in ("rule 0 1\n", "x\n", "\n"):
            self.assert_line(HEAD + lines + ninth, 11)
            self.assert_line(HEAD + lines + ninth + lines, 11)
        self.assert_line(HEAD + lines + "rule 0 1", 11)

    def test_a_kind_sent_twice_on_a_way(self):
        first, second = "rule 0 1 says 0\n", "rule 2 3 says 0\n"
        self.assertEqual(len(parse_protocol(HEAD + first + second)[3]), 2)
        self.assert_line(HEAD + first + second + "rule 1 2\n", 5)
        self.assert_line(HEAD + first + "rule 1 2\n" + second, 5)
        self.assert_line(HEAD + first + "rule 1 2\n" + "rule 1 3 says 1\n" + second + "x\n", 6)
        self.assert_line(HEAD + first + "rule 1 2 says 0\n", 4)
        # A line that is no rule comes first where it stands first.
        self.assert_line(HEAD + first + "rule 1 2 \n" + second, 4)

    def test_a_fifth_condition(self):
        rules = ["rule 0 1 hears 0 0 0 %d hears 1 0 0 %d\n" % (one, one) for one in (0, 1)]
        four = HEAD + "".join(rules)
        self.assertEqual(len(own.conditions(parse_protocol(four + rules[0]))), 4)
        self.assert_line(four + "rule 0 1 hears 0 1 0 0\n", 5)
        self.assert_line(four + rules[0] + "rule 0 1 hears 0 0 0 1 hears 0 1 0 0\n" + rules[0], 6)

    def test_long_texts(self):
        self.assert_line("x" * 20000, 0)
        self.assert_line("\n" * 20000, 0)
        self.assert_line(HEAD + "\n" * 19000, 3)
        self.assert_line("locations " + "4" * 19000, 0)
        self.assert_line(HEAD + "starts " + "0 " * 9000 + "\n", 3)
        self.assert_line(TEXT + "x" * 19000, 7)

    def test_by_all_lines_that_may_stand(self):
        # Each line's text is right or not by the protocol that it would make.
        right = [put(BROADCAST, 3, BROADCAST[3][:many]) for many in range(5)]
        for protocol in right:
            self.assertEqual(parse_protocol(written(protocol)), protocol)
        for a, b, c in itertools.product((-4, -3, 3, 4), (-4, -3, 3, 4), (-1, 0, 1, 2)):
            text = HEAD + f"rule 0 1 hears 0 {a} {b} {c}\n"
            if abs(a) < 4 and abs(b) < 4 and c in (0, 1):
                self.assertEqual(parse_protocol(text)[3], ((0, 1, ((0, (a, b, c)),), ()),))
            else:
                self.assert_line(text, 3)
        self.assertEqual(own.conditions(parse_protocol(TEXT))[0], LOW)


if __name__ == "__main__":
    unittest.main()
