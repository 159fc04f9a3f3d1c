"""Point 12 and stoppoints/places.py."""

import unittest

from stoppoints.codes import Loop, Return, Row, Work
from stoppoints.errors import InvalidCode, InvalidPlace, InvalidTime
from stoppoints.places import placed, places_of
from stoppoints.programs import Program
from stoppoints.spans import Span
from stoppoints.texts import parse_code, show_code, show_program

from cases import STRANGE, TOP, Case, Same, nested, of_size
from samples import choices_by_chance, generator, random_program, random_rings

KINDS = ["entry", "work", "back", "finish"]


def program_of(first="f", **texts):
    return Program(first, {name: parse_code(text) for name, text in texts.items()})


def put(text, *places, cost=0):
    """The text of f with looks at places (kind, index)."""
    program = placed(program_of(f=text), [(kind, "f", index) for kind, index in places], cost=cost)
    return show_code(program["f"])


class PlacesOfTest(Case):
    def test_all_four_kinds(self):
        program = program_of(f="[1; 0..2 {2 | return}; 3]")
        self.assertEqual(places_of(program), [
            ("entry", "f", 0), ("work", "f", 0), ("work", "f", 1), ("work", "f", 2), ("back", "f", 0),
            ("finish", "f", 0)])

    def test_by_names_then_kinds_then_indexes(self):
        program = program_of("z", z="[1; 2]", ab="0..* 0..* 1", a="[]", b="return")
        self.assertEqual(places_of(program), [
            ("entry", "a", 0), ("finish", "a", 0),
            ("entry", "ab", 0), ("work", "ab", 0), ("back", "ab", 0), ("back", "ab", 1), ("finish", "ab", 0),
            ("entry", "b", 0), ("finish", "b", 0),
            ("entry", "z", 0), ("work", "z", 0), ("work", "z", 1), ("finish", "z", 0)])

    def test_indexes_above_nine(self):
        program = program_of(f="[" + "; ".join(["0..1 1"] * 12) + "]")
        self.assertEqual(places_of(program, "work"), [("work", "f", k) for k in range(12)])
        self.assertEqual(places_of(program, "back"), [("back", "f", k) for k in range(12)])

    def test_programs_without_works_loops_or_returns(self):
        for text in ["[]", "?a", "!", "call f", "{[] | call f}"]:
            self.assertEqual(places_of(program_of(f=text)), [("entry", "f", 0), ("finish", "f", 0)])
            self.assertEqual(places_of(program_of(f=text), "work", "back"), [])
        self.assertEqual(places_of(program_of(f="return"), "finish"), [("finish", "f", 0)])

    def test_one_finish_with_many_returns(self):
        program = program_of(f="{return | 0..* [return; {return | leave}] | return}")
        self.assertEqual(places_of(program, "finish"), [("finish", "f", 0)])

    def test_functions_that_are_not_reached(self):
        program = program_of(f="1", g="2", h="call h")
        self.assertEqual(places_of(program, "work", "entry"), [
            ("entry", "f", 0), ("work", "f", 0), ("entry", "g", 0), ("work", "g", 0), ("entry", "h", 0)])

    def test_kinds(self):
        program = program_of(f="[1; 0..* 2]", g="0..1 call f")
        every = places_of(program)
        for kinds in [["entry"], ["work"], ["back"], ["finish"], ["work", "back"], ["back", "work"],
                      ["finish", "entry", "finish"], ["work", "work"], KINDS, KINDS[::-1], KINDS * 3]:
            self.assertEqual(places_of(program, *kinds), [place for place in every if place[0] in kinds])

    def test_wrong_kinds(self):
        program = program_of(f="[1; 0..* 2]")
        for value in STRANGE + [0, "Entry", "works", "entry ", "rings", ("entry",), ["work"], Work(1), Span(1), Same()]:
            self.refuses(InvalidPlace, {"value": value}, places_of, program, value)
            self.refuses(InvalidPlace, {"value": value}, places_of, program, "entry", value, "finish", "no")

    def test_a_new_list(self):
        program = program_of(f="1")
        places_of(program).clear()
        self.assertEqual(len(places_of(program=program)), 3)


class PlacedTest(Case):
    def test_entry(self):
        self.assertEqual(put("5", ("entry", 0)), "[?entry; 5]")
        self.assertEqual(put("[1; 2]", ("entry", 0)), "[?entry; [1; 2]]")
        self.assertEqual(put("[]", ("entry", 0)), "[?entry; []]")
        self.assertEqual(put("return", ("entry", 0)), "[?entry; return]")

    def test_work(self):
        self.assertEqual(put("5", ("work", 0)), "[5; ?work]")
        self.assertEqual(put("[1; {2 | [3; 0..4 5]}; 6]", ("work", 2)), "[1; {2 | [[3; ?work]; 0..4 5]}; 6]")
        self.assertEqual(put("[1; {2 | [3; 0..4 5]}; 6]", ("work", 4), ("work", 0), ("work", 1)),
                         "[[1; ?work]; {[2; ?work] | [3; 0..4 5]}; [6; ?work]]")
        self.assertEqual(put("0..4 5", ("work", 0)), "0..4 [5; ?work]")

    def test_back(self):
        self.assertEqual(put("0..4 5", ("back", 0)), "0..4 [5; ?back]")
        self.assertEqual(put("2..* [5; 6]", ("back", 0)), "2..* [[5; 6]; ?back]")
        text = "[0..1 1; 0..2 [0..3 3; 0..4 4]; 0..5 5]"
        self.assertEqual(put(text, ("back", 1)), "[0..1 1; 0..2 [[0..3 3; 0..4 4]; ?back]; 0..5 5]")
        self.assertEqual(put(text, ("back", 2)), "[0..1 1; 0..2 [0..3 [3; ?back]; 0..4 4]; 0..5 5]")
        self.assertEqual(put(text, ("back", 4), ("back", 0)),
                         "[0..1 [1; ?back]; 0..2 [0..3 3; 0..4 4]; 0..5 [5; ?back]]")
        self.assertEqual(put("0..1 0..2 0..3 1", ("back", 1)), "0..1 0..2 [0..3 1; ?back]")
        self.assertEqual(put("1..* leave", ("back", 0)), "1..* [leave; ?back]")

    def test_finish(self):
        self.assertEqual(put("5", ("finish", 0)), "[5; ?finish]")
        self.assertEqual(put("[1; 2]", ("finish", 0)), "[[1; 2]; ?finish]")
        self.assertEqual(put("return", ("finish", 0)), "[[?finish; return]; ?finish]")
        self.assertEqual(put("0..3 {return | [1; return] | leave}", ("finish", 0)),
                         "[0..3 {[?finish; return] | [1; [?finish; return]] | leave}; ?finish]")

    def test_entry_and_finish(self):
        self.assertEqual(put("5", ("finish", 0), ("entry", 0)), "[?entry; 5; ?finish]")
        self.assertEqual(put("[1; 2]", ("entry", 0), ("finish", 0)), "[?entry; [1; 2]; ?finish]")

    def test_all_four_at_one_function(self):
        self.assertEqual(put("[1; 2..3 {4 | return}]", ("entry", 0), ("work", 0), ("work", 1), ("back", 0), ("finish", 0)),
                         "[?entry; [[1; ?work]; 2..3 [{[4; ?work] | [?finish; return]}; ?back]]; ?finish]")
        self.assertEqual(put("0..* 5", ("back", 0), ("work", 0)), "0..* [[5; ?work]; ?back]")

    def test_costs(self):
        self.assertEqual(put("5", ("work", 0), cost=3), "[5; ?work:3]")
        self.assertEqual(put("0..1 return", ("entry", 0), ("back", 0), ("finish", 0), cost=TOP),
                         f"[?entry:{TOP}; 0..1 [[?finish:{TOP}; return]; ?back:{TOP}]; ?finish:{TOP}]")
        self.assertEqual(put("5", ("work", 0), cost=0), "[5; ?work]")
        with self.assertRaises(TypeError):
            placed(program_of(f="1"), [], 3)

    def test_wrong_costs(self):
        program = program_of(f="5")
        for value in STRANGE + [-1, TOP + 1, Span(1)]:
            self.refuses(InvalidTime, {"value": value}, placed, program, [("work", "f", 0)], cost=value)
            self.refuses(InvalidTime, {"value": value}, placed, program, [], cost=value)

    def test_other_functions_stay(self):
        program = program_of("g", f="[1; call g]", g="[2; {[] | call f}]", h="3")
        new = placed(program, [("work", "g", 0), ("entry", "h", 0)])
        self.assertEqual(show_program(new), [
            "first g", "f = [1; call g]", "g = [[2; ?work]; {[] | call f}]", "h = [?entry; 3]"])
        self.assertEqual(show_program(program), ["first g", "f = [1; call g]", "g = [2; {[] | call f}]", "h = 3"])

    def test_no_places(self):
        program = program_of(f="[1; 0..* 2]", g="return")
        self.assertEqual(placed(program, []), program)
        self.assertEqual(placed(places=(), program=program, cost=4), program)

    def test_in_any_order(self):
        rng = generator(71)
        for _ in range(50):
            program = random_rings(rng)
            places = places_of(program)
            chosen = rng.sample(places, rng.randrange(len(places) + 1))
            self.compare_orders(program, chosen, rng)

    def compare_orders(self, program, chosen, rng):
        given = list(chosen)
        new = placed(program, chosen)
        self.assertEqual(chosen, given)
        self.assertEqual(placed(program, tuple(chosen)), new)
        self.assertEqual(placed(program, sorted(chosen)), new)
        rng.shuffle(chosen)
        self.assertEqual(placed(program, chosen), new)

    def test_no_list_of_places(self):
        program = program_of(f="5")
        for value in [None, True, 5, "", "work", b"a", {}, {("work", "f", 0): 1}, {("work", "f", 0)}, Work(1), program,
                      iter([])]:
            self.refuses(InvalidPlace, {"value": value}, placed, program, value, cost=-1)

    def test_no_places_of_the_program(self):
        program = program_of(f="[5; 0..* 1]", g="return")
        wrong = STRANGE + [5, "entry", ("entry", "f"), ("entry", "f", 0, 0), ["entry", "f", 0], ("Entry", "f", 0),
                           ("entry", "h", 0), ("entry", "F", 0), ("entry", None, 0), ("entry", ["f"], 0),
                           (["entry"], "f", 0), (None, "f", 0), ("work", "f", [0]), ("entry", "f", {}),
                           ("entry", "f", 1), ("finish", "g", 1), ("work", "f", 2), ("work", "f", -1), ("work", "g", 0),
                           ("back", "f", 1), ("back", "g", 0), ("work", "f", True), ("work", "f", False),
                           ("entry", "f", False), ("back", "f", None), ("work", "f", "0"), ("f", "work", 0),
                           ("work", "f", 10 ** 40), Work(1), Span(1), Same(), (Same(), "f", 0),
                           ("work", Same(), 0), ("work", "f", Same())]
        for value in wrong:
            self.refuses(InvalidPlace, {"value": value}, placed, program, [value])
            self.refuses(InvalidPlace, {"value": value}, placed, program,
                         (("entry", "f", 0), ("work", "f", 1), value, ("no",), ("entry", "f", 0)), cost=-1)

    def test_places_twice(self):
        program = program_of(f="[5; 0..* 1]")
        for place in places_of(program):
            self.refuses(InvalidPlace, {"value": place}, placed, program, [place, place])
            self.refuses(InvalidPlace, {"value": place}, placed, program, (place, *places_of(program)))
        self.refuses(InvalidPlace, {"value": ("work", "f", 1)}, placed, program,
                     [("work", "f", 1), ("work", "f", 0), ("work", "f", 1), ("work", "f", 0)])

    def test_codes_that_become_too_great(self):
        program = Program("f", {"f": of_size(198), "g": Work(1)})
        self.assertEqual(len(placed(program, [("entry", "f", 0)])["f"]), 200)
        self.assertEqual(len(placed(program, [("work", "f", 196)])["f"]), 200)
        for pair in [("entry", 0), ("finish", 0)], [("work", 0), ("work", 9)], [("entry", 0), ("work", 9)]:
            places = [(kind, "f", index) for kind, index in pair]
            self.refuses(InvalidCode, {"value": None}, placed, program, places)
            self.refuses(InvalidTime, {"value": -1}, placed, program, places, cost=-1)
        program = Program("f", {"f": Row(*[Return()] * 66)})
        self.assertEqual(len(placed(program, [("entry", "f", 0)])["f"]), 69)
        self.refuses(InvalidCode, {"value": None}, placed, program, [("finish", "f", 0)])

    def test_codes_that_become_too_deep(self):
        program = Program("f", {"f": nested(24)})
        self.assertEqual(placed(program, [("entry", "f", 0)])["f"].depth(), 25)
        self.assertEqual(placed(program, [("work", "f", 0)])["f"].depth(), 25)
        self.refuses(InvalidCode, {"value": None}, placed, program, [("entry", "f", 0), ("work", "f", 0)])
        program = Program("f", {"f": nested(25), "g": Work(1)})
        for place in [("entry", "f", 0), ("finish", "f", 0), ("work", "f", 0)]:
            self.refuses(InvalidCode, {"value": None}, placed, program, [("entry", "g", 0), place])
        self.assertEqual(placed(program, [("entry", "g", 0)])["f"], nested(25))
        code = Work(1)
        for _ in range(12):
            code = Loop(0, 1, code)
        places = [("back", "f", k) for k in range(12)]
        self.assertEqual(placed(Program("f", {"f": code}), places)["f"].depth(), 25)
        places = [("back", "f", k) for k in range(13)]
        self.refuses(InvalidCode, {"value": None}, placed, Program("f", {"f": Loop(0, 1, code)}), places)


class WalksTest(Case):
    def test_walks_have_the_same_steps_but_for_the_looks(self):
        rng = generator(72)
        compared = 0
        for k in range(500):
            program = random_rings(rng) if k % 2 else Program(*random_program(rng))
            choices = choices_by_chance(rng, program, 10)
            places = places_of(program)
            chosen = rng.sample(places, rng.randrange(len(places) + 1))
            if choices is None or len(program(choices)) > 1000:
                continue
            walk, new = program(choices), placed(program, chosen)(choices)
            self.assertEqual([step for step in new.steps() if step[0] != "look" or step[1] not in KINDS], walk.steps())
            self.assertEqual((new.done, new.waits, new.time), (walk.done, walk.waits, walk.time))
            compared += 1
        self.assertGreater(compared, 300)

    def test_where_looks_are(self):
        program = program_of(f="[1; 3..3 {2 | [4; leave] | [5; return]}; call g; 6]", g="[7; return; 8]")
        for choices, wanted in [
                ([3, 0, 0, 0], "E 1 W t 2 W B t 2 W B t 2 W B c E 7 W F 6 W F"),
                ([3, 0, 1], "E 1 W t 2 W B t 4 W c E 7 W F 6 W F"),
                ([3, 0, 2], "E 1 W t 2 W B t 5 W F"),
                ([3, 0], "E 1 W t 2 W B t")]:
            walk = placed(program, places_of(program))(choices)
            self.assertEqual(" ".join(self.sign(step) for step in walk.steps()), wanted)

    def sign(self, step):
        if step[0] == "look":
            return step[1][0].upper()
        return str(step[1]) if step[0] == "work" else step[0][0]

    def test_turns_that_do_not_go_on_have_no_look(self):
        walk = placed(program_of(f="0..* {1 | leave}"), [("back", "f", 0)])([5, 0, 0, 1])
        self.assertEqual(walk.looks(), ["back", "back"])

    def test_looks_of_their_own_names_beside_others(self):
        program = program_of(f="[?work; 1; ?entry]")
        self.assertEqual(placed(program, places_of(program))([]).looks(), ["entry", "work", "work", "entry", "finish"])

    def test_cost_is_taken(self):
        walk = placed(program_of(f="[1; 2]"), [("work", "f", 0), ("finish", "f", 0)], cost=10)([])
        self.assertEqual(walk.stretches(), [11, 12, 0])


if __name__ == "__main__":
    unittest.main()
