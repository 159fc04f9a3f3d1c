"""Points 3 (e) and 14 and stoppoints/parting.py."""

import unittest

from stoppoints.codes import Work
from stoppoints.errors import InvalidRule
from stoppoints.parting import parting_program
from stoppoints.programs import Program
from stoppoints.rules import Rule, ruled
from stoppoints.solving import span_of
from stoppoints.spans import Span

from cases import STRANGE, TOP, Case

WORDS = ["none", "rings", "all"]
BACKS = ["none", "unknown", TOP - 1, TOP - 2, 7, 6, 1, 0]


def all_rules():
    return [Rule(entry, finish, back) for entry in WORDS for finish in WORDS for back in BACKS]


class PartingTest(Case):
    def parts(self, one, other):
        """That the told program has a greater span under the rule one."""
        program = parting_program(one, other)
        self.assertIsInstance(program, Program)
        self.assertGreater(span_of(ruled(program, one)), span_of(ruled(program, other)))

    def test_all_pairs(self):
        for one in all_rules():
            for other in all_rules():
                if other <= one:
                    self.assertIsNone(parting_program(one, other))
                else:
                    self.parts(one, other)

    def test_one_part_less_and_all_others_more(self):
        for entry in range(1, 3):
            self.parts(Rule(WORDS[entry - 1], "all", 0), Rule(WORDS[entry], "none", "none"))
        self.parts(Rule("none", "all", 0), Rule("all", "none", "none"))
        for finish in range(1, 3):
            self.parts(Rule("all", WORDS[finish - 1], 0), Rule("none", WORDS[finish], "none"))
        self.parts(Rule("all", "none", 0), Rule("none", "all", "none"))
        for k, back in enumerate(BACKS):
            for less in BACKS[:k]:
                self.parts(Rule("all", "all", less), Rule("none", "none", back))

    def test_equal_rules(self):
        for rule in all_rules():
            self.assertIsNone(parting_program(rule, Rule(rule.entry, rule.finish, rule.back)))
        self.assertIsNone(parting_program(other=Rule.nowhere(), one=Rule("all", "all", 0)))

    def test_again_the_same(self):
        one, other = Rule("all", "none", 3), Rule("none", "rings", 2)
        self.assertEqual(parting_program(one, other), parting_program(one, other))

    def test_no_rules(self):
        for value in STRANGE + [0, "none none none", ("none", "none", "none"), Span(1), Work(1)]:
            self.refuses(InvalidRule, {"value": value}, parting_program, value, "no")
            self.refuses(InvalidRule, {"value": value}, parting_program, Rule.nowhere(), value)


if __name__ == "__main__":
    unittest.main()
