"""Points 3 (d), 13 and stoppoints/rules.py."""

import operator
import unittest

from stoppoints.codes import Look, Return, Row, Work, pieces_of
from stoppoints.errors import InvalidCode, InvalidRule
from stoppoints.places import placed
from stoppoints.programs import Program
from stoppoints.rules import Rule, parse_rule, ruled, show_rule
from stoppoints.solving import span_of
from stoppoints.spans import Span
from stoppoints.texts import parse_code, show_program

from cases import STRANGE, STRANGER, TOP, Case, Same, nested, of_size
from samples import generator, random_program, random_rings

WORDS = ["none", "rings", "all"]
BACKS = ["none", "unknown", TOP - 1, 7, 3, 2, 1, 0]
LAST = TOP - 1


def program_of(first="f", **texts):
    return Program(first, {name: parse_code(text) for name, text in texts.items()})


def all_rules():
    return [Rule(entry, finish, back) for entry in WORDS for finish in WORDS for back in BACKS]


def parts(rule):
    return (rule.entry, rule.finish, rule.back)


# In this program two rules have the same places only if they are equal, as far as their backs are among BACKS.
RICH = program_of(
    f="[call g; call h; 0..* 1]", g="[0..1 1; {[] | call h}; 0..0 1; 2..2 return]", h="[0..3 0..4 1; {[] | call g}]",
    k=f"[0..7 1; 0..8 1; {{[] | call k}}; 0..{TOP} 1; 0..{LAST} 1]")


class RuleTest(Case):
    def test_parts(self):
        for entry in WORDS:
            for finish in WORDS:
                for back in BACKS + [10, 10 ** 20]:
                    rule = Rule(entry, finish, back)
                    self.assertEqual((rule.entry, rule.finish), (entry, finish))
                    self.same(rule.back, back)
        self.assertEqual(parts(Rule(back=3, finish="none", entry="all")), ("all", "none", 3))

    def test_wrong_parts(self):
        wrong = STRANGE + [0, 3, "None", "ring", "all ", " all", "al", ("all",), ["all"], Span(1), Same()]
        for value in wrong + ["unknown"]:
            self.refuses(InvalidRule, {"value": value}, Rule, value, "no", "no")
            self.refuses(InvalidRule, {"value": value}, Rule, "none", value, "no")
        for value in STRANGE + ["rings", "all", "None", "unknown ", "7", -1, TOP, TOP + 1, (7,), [7], Span(7), "0", Same()]:
            self.refuses(InvalidRule, {"value": value}, Rule, "none", "all", value)

    def test_static_methods(self):
        self.assertEqual(parts(Rule.nowhere()), ("none", "none", "none"))
        self.assertEqual(parts(Rule.at_entries()), ("all", "none", "none"))
        self.assertEqual(parts(Rule.at_entries(only_rings=True)), ("rings", "none", "none"))
        self.assertEqual(parts(Rule.at_entries(only_rings=False)), ("all", "none", "none"))
        self.assertEqual(parts(Rule.at_finishes()), ("none", "all", "none"))
        self.assertEqual(parts(Rule.at_finishes(only_rings=True)), ("none", "rings", "none"))
        self.assertEqual(parts(Rule.at_finishes(only_rings=False)), ("none", "all", "none"))
        self.assertEqual(parts(Rule.at_backs()), ("none", "none", 0))
        self.assertEqual(parts(Rule.at_backs(None)), ("none", "none", "unknown"))
        self.assertEqual(parts(Rule.at_backs(above=LAST)), ("none", "none", LAST))
        self.assertEqual(parts(Rule.at_backs(5)), ("none", "none", 5))
        for call in (Rule.at_entries, Rule.at_finishes):
            with self.assertRaises(TypeError):
                call(True)

    def test_wrong_backs(self):
        for value in STRANGER + [-1, TOP, "unknown", "none", "0", Span(1)]:
            self.refuses(InvalidRule, {"value": value}, Rule.at_backs, value)


class SignsTest(Case):
    def test_signs_are_those_of_the_places(self):
        rules = all_rules()
        places = [rule.places(RICH) for rule in rules]
        for one, at in zip(rules, places):
            for other, there in zip(rules, places):
                self.assertIs(one <= other, set(at) <= set(there))
                self.assertEqual(set((one | other).places(RICH)), set(at) | set(there))
                self.assertEqual(set((one & other).places(RICH)), set(at) & set(there))
                self.assertIs(one == other, at == there)
                self.assertIs(one != other, at != there)

    def test_or(self):
        self.assertEqual(parts(Rule("none", "all", 3) | Rule("rings", "rings", 7)), ("rings", "all", 3))
        self.assertEqual(parts(Rule("none", "none", "unknown") | Rule("none", "none", LAST)), ("none", "none", LAST))
        self.assertEqual(parts(Rule("all", "none", "none") | Rule("rings", "rings", "unknown")), ("all", "rings", "unknown"))

    def test_and(self):
        self.assertEqual(parts(Rule("none", "all", 3) & Rule("rings", "rings", 7)), ("none", "rings", 7))
        self.assertEqual(parts(Rule("all", "all", "unknown") & Rule("all", "none", LAST)), ("all", "none", "unknown"))
        self.assertEqual(parts(Rule("rings", "all", "none") & Rule("all", "all", 0)), ("rings", "all", "none"))

    def test_at_most(self):
        for low, high in zip(BACKS, BACKS[1:]):
            self.assertIs(Rule("none", "none", low) <= Rule("none", "none", high), True)
            self.assertIs(Rule("none", "none", high) <= Rule("none", "none", low), False)
        for low, high in zip(WORDS, WORDS[1:]):
            self.assertIs(Rule(low, "none", 1) <= Rule(high, "none", 1), True)
            self.assertIs(Rule(high, "none", 1) <= Rule(low, "all", 0), False)
            self.assertIs(Rule("none", low, 1) <= Rule("none", high, 1), True)
            self.assertIs(Rule("none", high, 1) <= Rule("all", low, 0), False)
        self.assertIs(Rule("all", "none", 1) <= Rule("none", "all", 1), False)

    def test_equal(self):
        self.assertTrue(Rule("rings", "none", 3) == Rule("rings", "none", 3))
        self.assertFalse(Rule("rings", "none", 1) == Rule("none", "rings", 1))
        for value in STRANGE + [0, "none none none", ("none", "none", "none"), Work(1), Span(1)]:
            self.assertFalse(Rule.nowhere() == value)
            self.assertTrue(Rule.nowhere() != value)

    def test_other_sides(self):
        for value in STRANGE + [0, "none none none", ("none", "none", "none"), Span(1), Work(1)]:
            for sign in (operator.or_, operator.and_, operator.le):
                self.refuses(InvalidRule, {"value": value}, sign, Rule.nowhere(), value)

    def test_sides_stay(self):
        one, other = Rule("none", "all", 3), Rule("rings", "rings", 7)
        new = [one | other, one & other]
        self.assertEqual((parts(one), parts(other)), (("none", "all", 3), ("rings", "rings", 7)))
        self.assertEqual(len(new), 2)


class PlacesTest(Case):
    def places(self, text, program):
        return parse_rule(text).places(program)

    def test_nowhere(self):
        self.assertEqual(Rule.nowhere().places(RICH), [])

    def test_all_entries_and_finishes(self):
        program = program_of("z", z="1", a="call z")
        self.assertEqual(self.places("all none none", program), [("entry", "a", 0), ("entry", "z", 0)])
        self.assertEqual(self.places("none all none", program), [("finish", "a", 0), ("finish", "z", 0)])
        self.assertEqual(self.places("all all none", program), [
            ("entry", "a", 0), ("finish", "a", 0), ("entry", "z", 0), ("finish", "z", 0)])

    def test_rings(self):
        program = program_of("f", f="call g", g="{[] | call h}", h="[1; call g]", k="{[] | call k}", m="[call f; call k]")
        self.assertEqual(self.places("rings none none", program), [("entry", "g", 0), ("entry", "h", 0), ("entry", "k", 0)])
        self.assertEqual(self.places("none rings none", program), [("finish", "g", 0), ("finish", "h", 0), ("finish", "k", 0)])
        self.assertEqual(self.places("rings all none", program_of(f="1")), [("finish", "f", 0)])

    def test_backs(self):
        program = program_of("f", f=f"[0..0 1; 0..* 0..1 1; 2..7 0..8 1; 0..{TOP} 1]", a="0..2 1")
        backs = {"none": [], "unknown": [1], "0": [1, 2, 3, 4, 5], "1": [1, 3, 4, 5], "6": [1, 3, 4, 5], "7": [1, 4, 5],
                 "8": [1, 5], str(LAST): [1, 5]}
        for back, indexes in backs.items():
            wanted = [("back", "a", 0)] if back in "01" else []
            self.assertEqual(self.places(f"none none {back}", program), wanted + [("back", "f", k) for k in indexes])

    def test_high_just_at_n(self):
        for n in (0, 1, 5, LAST):
            program = Program("f", {"f": parse_code(f"[0..{n} 1; 0..{n + 1} 1; 0..* 1]")})
            self.assertEqual(Rule.at_backs(n).places(program), [("back", "f", 1), ("back", "f", 2)])

    def test_all_kinds_in_order(self):
        program = program_of("f", f="[0..3 1; 0..* {[] | call f}]", e="0..* 1")
        self.assertEqual(Rule("all", "rings", 0).places(program=program), [
            ("entry", "e", 0), ("back", "e", 0), ("entry", "f", 0), ("back", "f", 0), ("back", "f", 1), ("finish", "f", 0)])

    def test_a_new_list(self):
        rule = Rule("all", "all", 0)
        many = len(rule.places(RICH))
        rule.places(RICH).clear()
        self.assertEqual(len(rule.places(RICH)), many)


class TextsTest(Case):
    def test_texts(self):
        self.assertEqual(show_rule(Rule("rings", "none", 3)), "rings none 3")
        self.assertEqual(show_rule(rule=Rule.nowhere()), "none none none")
        self.assertEqual(show_rule(Rule("all", "rings", "unknown")), "all rings unknown")
        self.assertEqual(show_rule(Rule("none", "all", LAST)), "none all " + "9" * 30)
        self.assertEqual(show_rule(Rule("none", "all", 0)), "none all 0")

    def test_read_back(self):
        for rule in all_rules():
            self.assertEqual(parts(parse_rule(show_rule(rule))), parts(rule))
            self.assertIs(type(parse_rule(text=show_rule(rule)).back), type(rule.back))

    def test_wrong_texts(self):
        good = "all rings 3"
        wrong = ["", " ", "all", "all rings", "all rings 3 ", " all rings 3", "all  rings 3", "all rings  3",
                 "all rings 3 3", "all rings 3\n", "all\trings\t3", "all rings 03", "all rings 00", "all rings -1",
                 "all rings +3", "all rings 3.0", "all rings 3_0", "all rings " + "1" + "0" * 30, "all rings " + "9" * 31,
                 "all rings " + "0" * 30 + "3", "all rings \u0663", "all rings \xb3", "all rings ", "allrings 3",
                 "All rings 3", "unknown none none", "none unknown none", "none none rings", "none none all", "3 none none",
                 "none none None", "all,rings,3", good * 2, "none none " + "9" * 5000, "a " * 9000]
        for value in wrong + STRANGE + [0, Rule.nowhere(), Span(1), good.encode()]:
            self.refuses(InvalidRule, {"value": value}, parse_rule, value)


class RuledTest(Case):
    def test_looks_of_cost_0_at_the_places(self):
        program = program_of("f", f="[1; 0..* {call f | return}]", g="0..3 2")
        self.assertEqual(show_program(ruled(program, parse_rule("rings all 3"))), [
            "first f", "f = [?entry; [1; 0..* [{call f | [?finish; return]}; ?back]]; ?finish]", "g = [0..3 2; ?finish]"])
        for rule in all_rules():
            self.assertEqual(ruled(rule=rule, program=RICH), placed(RICH, rule.places(RICH)))

    def test_wrong_rules(self):
        for value in STRANGE + [0, "none none none", ("none", "none", "none"), Span(1), RICH]:
            self.refuses(InvalidRule, {"value": value}, ruled, RICH, value)

    def test_codes_that_become_too_great(self):
        for code in [of_size(199), nested(25), Row(*[Return()] * 98)]:
            program = Program("f", {"f": code})
            self.refuses(InvalidCode, {"value": None}, ruled, program, Rule("all", "all", 0))
            self.assertEqual(ruled(program, Rule("rings", "rings", 0)), program)


class GuaranteeTest(Case):
    def test_rules_under_which_no_program_is_endless(self):
        rng = generator(81)
        rule = Rule.at_entries() | Rule.at_finishes() | Rule.at_backs()
        endless = 0
        for k in range(500):
            program = random_rings(rng) if k % 2 else Program(*random_program(rng))
            works = [sum(piece.time for piece in pieces_of(program[name]) if isinstance(piece, Work))
                     for name in program.names()]
            looks = [piece.cost for name in program.names() for piece in pieces_of(program[name]) if isinstance(piece, Look)]
            endless += span_of(program).is_endless()
            self.assertLessEqual(span_of(ruled(program, rule)), Span(max(works) + max(looks, default=0)))
        self.assertGreater(endless, 30)

    def test_more_looks_never_leave_longer_spans(self):
        rng = generator(82)
        rules = all_rules()
        compared = 0
        for k in range(300):
            program = random_rings(rng) if k % 2 else Program(*random_program(rng))
            one, other = rng.choice(rules), rng.choice(rules)
            self.assertLessEqual(span_of(ruled(program, one | other)), span_of(ruled(program, one)))
            self.assertLessEqual(span_of(ruled(program, one)), span_of(ruled(program, one & other)))
            compared += span_of(ruled(program, one | other)) < span_of(ruled(program, one & other))
        self.assertGreater(compared, 30)


if __name__ == "__main__":
    unittest.main()
