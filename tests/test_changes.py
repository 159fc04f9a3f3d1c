"""Point 17, guarantee (g) of point 3 and stoppoints/changes.py."""

import unittest

from stoppoints.changes import inlined, split, unrolled
from stoppoints.codes import Call, Either, Leave, Look, Loop, Return, Row, Work, loops_of, pieces_of
from stoppoints.errors import CannotInline, InvalidCode, InvalidLoop, InvalidTurns, UnknownName
from stoppoints.longest import longest_trail
from stoppoints.places import places_of
from stoppoints.placings import Placings, most_looks
from stoppoints.programs import Program, rings
from stoppoints.rules import Rule, ruled
from stoppoints.solving import called_numbers, endless_loops, span_of
from stoppoints.spans import Span
from stoppoints.texts import parse_code, show_code, show_program

from cases import STRANGE, TOP, Case, Same, nested, of_size
from samples import TooMany, finished_walks, generator, plain_steps, random_program, random_tree_of_calls

# Codes of turns, with a work of 7 at the beginning of each turn, and none elsewhere.
PLAIN = ["7", "[7; ?a]", "[7; {1 | return}]", "[7; call g]"]
OTHER = ["[7; {[] | ?a:2}; 1]", "[7; 0..1 {! | leave}]"]


def program_of(first="f", **texts):
    return Program(first, {name: parse_code(text) for name, text in texts.items()})


def as_written(low, high, code, count, body):
    """What the loop becomes, word for word as in point 17; body is what B goes through in each turn."""
    def b_of(x, y):
        return Loop(x, y, body)

    a, s = low // count, low % count
    b, t = (None, None) if high is None else (high // count, high % count)
    if high is not None and a == b:
        return Row(b_of(a, a), Loop(s, t, code))
    ways = [Row(b_of(a, a), Loop(s, count - 1, code))]
    if high is None or b > a + 1:
        ways.append(Row(b_of(a + 1, None if high is None else b - 1), Loop(0, count - 1, code)))
    if high is not None:
        ways.append(Row(b_of(b, b), Loop(0, t, code)))
    return Either(*ways)


def as_split(loop, count):
    return as_written(loop.low, loop.high, loop.code, count, Row(Loop(count, count, loop.code), Look("split")))


def as_unrolled(loop, count):
    return as_written(loop.low, loop.high, loop.code, count, Row(*[loop.code] * count))


def with_other_loop(program, name, index, change):
    """The program with change(loop) in place of a loop, which is found by counting all of them as they begin."""
    seen = []

    def go(code):
        if isinstance(code, Loop):
            seen.append(code)
            if len(seen) == index + 1:
                return change(code)
            return Loop(code.low, code.high, go(code.code))
        if isinstance(code, (Row, Either)):
            return type(code)(*[go(part) for part in code.parts()])
        return code

    return program.with_function(name, go(program[name]))


def marked(program, name, index):
    """The program with looks that tell where a loop begins and where its turns end."""
    return with_other_loop(program, name, index, lambda loop: Row(Look("start"), Loop(
        loop.low, loop.high, Row(loop.code, Look("mark")))))


def with_splits(steps, count):
    """The steps of a walk of a marked program, with the looks that split puts there."""
    found, turns = [], 0
    for step in steps:
        if step == ("look", "start"):
            turns = 0
        elif step == ("look", "mark"):
            turns += 1
            if turns % count == 0:
                found.append(("look", "split"))
        else:
            found.append(step)
    return tuple(found)


class CodesTest(Case):
    """The codes just as the document writes them down."""

    def both(self, low, high, text="[5; ?a]"):
        loop = Loop(low, high, parse_code(text))
        program = Program("f", {"f": loop})
        for count in [1, 2, 3, 4, 5, 6, 7]:
            self.assertEqual(split(program, "f", 0, count), Program("f", {"f": as_split(loop, count)}))
            self.assertEqual(unrolled(program, "f", 0, count), Program("f", {"f": as_unrolled(loop, count)}))

    def test_all_small_bounds(self):
        for low in range(7):
            for high in [None, *range(low, 8)]:
                self.both(low, high)

    def show(self, change, text, count, wanted):
        self.assertEqual(show_code(change(program_of(f=text), "f", 0, count)["f"]), wanted)

    def test_split_by_hand(self):
        self.show(split, "3..10 5", 3, "{[1..1 [3..3 5; ?split]; 0..2 5] | [2..2 [3..3 5; ?split]; 0..2 5]"
                                       " | [3..3 [3..3 5; ?split]; 0..1 5]}")
        # b is a + 1.
        self.show(split, "3..8 5", 3, "{[1..1 [3..3 5; ?split]; 0..2 5] | [2..2 [3..3 5; ?split]; 0..2 5]}")
        self.show(split, "4..7 5", 3, "{[1..1 [3..3 5; ?split]; 1..2 5] | [2..2 [3..3 5; ?split]; 0..1 5]}")
        # a is b.
        self.show(split, "4..5 5", 3, "[1..1 [3..3 5; ?split]; 1..2 5]")
        self.show(split, "0..2 5", 3, "[0..0 [3..3 5; ?split]; 0..2 5]")
        self.show(split, "3..3 5", 3, "[1..1 [3..3 5; ?split]; 0..0 5]")
        self.show(split, "0..0 5", 3, "[0..0 [3..3 5; ?split]; 0..0 5]")
        # high is None.
        self.show(split, "4..* 5", 3, "{[1..1 [3..3 5; ?split]; 1..2 5] | [2..* [3..3 5; ?split]; 0..2 5]}")
        self.show(split, "0..* 5", 1, "{[0..0 [1..1 5; ?split]; 0..0 5] | [1..* [1..1 5; ?split]; 0..0 5]}")
        self.show(split, "0..1 5", 1, "{[0..0 [1..1 5; ?split]; 0..0 5] | [1..1 [1..1 5; ?split]; 0..0 5]}")

    def test_unrolled_by_hand(self):
        self.show(unrolled, "3..10 5", 3, "{[1..1 [5; 5; 5]; 0..2 5] | [2..2 [5; 5; 5]; 0..2 5]"
                                          " | [3..3 [5; 5; 5]; 0..1 5]}")
        self.show(unrolled, "2..2 [1; ?a]", 2, "[1..1 [[1; ?a]; [1; ?a]]; 0..0 [1; ?a]]")
        self.show(unrolled, "0..* 5", 1, "{[0..0 [5]; 0..0 5] | [1..* [5]; 0..0 5]}")

    def test_counts_at_the_bounds(self):
        for low, high in [(4, 4), (4, 9), (0, 4), (1, 5), (6, None), (0, None), (0, 0), (5, 6), (5, 7)]:
            for count in {low - 1, low, low + 1, *([] if high is None else [high - 1, high, high + 1])} - {0, -1}:
                self.show(split, f"{low}..{'*' if high is None else high} 5", count,
                          show_code(as_split(Loop(low, high, Work(5)), count)))
                self.show(unrolled, f"{low}..{'*' if high is None else high} 5", count,
                          show_code(as_unrolled(Loop(low, high, Work(5)), count)))

    def test_great_bounds(self):
        for low, high in [(TOP, TOP), (TOP, None), (0, TOP), (TOP - 1, TOP), (TOP - 1, None), (TOP // 2, TOP)]:
            loop = Loop(low, high, Work(1))
            program = Program("f", {"f": loop})
            for count in [2, 3, 10 ** 15, TOP // 2, TOP - 1, TOP]:
                self.assertEqual(split(program, "f", 0, count)["f"], as_split(loop, count))
            self.assertEqual(unrolled(program, "f", 0, 2)["f"], as_unrolled(loop, 2))

    def test_the_loop_of_the_index(self):
        text = "[0..3 [1; 0..4 0..5 2]; {0..6 3 | 2..* ?a}; 4]"
        program = program_of(f=text, g="0..7 1")
        for index in range(5):
            for change, wanted in [(split, as_split), (unrolled, as_unrolled)]:
                expected = with_other_loop(program, "f", index, lambda loop: wanted(loop, 2))
                self.assertEqual(change(program, "f", index, 2), expected)
                self.assertEqual(change(program, "f", index, 2)["g"], program["g"])
        self.assertEqual(split(program, "g", 0, 2)["f"], program["f"])
        self.assertEqual(show_code(unrolled(program, "f", 2, 4)["f"]),
                         "[0..3 [1; 0..4 {[0..0 [2; 2; 2; 2]; 0..3 2] | [1..1 [2; 2; 2; 2]; 0..1 2]}];"
                         " {0..6 3 | 2..* ?a}; 4]")

    def test_the_rest_of_the_program_stays(self):
        program = program_of("g", f="[0..3 1; ?a:3; !]", g="[call f; return]", h="0..9 [2; call h]")
        changed = split(program=program, name="f", index=0, count=2)
        self.assertEqual((changed.first, changed.names()), ("g", ["f", "g", "h"]))
        self.assertEqual((changed["g"], changed["h"]), (program["g"], program["h"]))
        self.assertEqual(show_program(program),
                         ["first g", "f = [0..3 1; ?a:3; !]", "g = [call f; return]", "h = 0..9 [2; call h]"])
        self.assertEqual(unrolled(program=program, name="f", index=0, count=2), unrolled(program, "f", 0, 2))
        changed = unrolled(program, "h", 0, 3)
        self.assertEqual(changed["f"], program["f"])


class LoopErrorsTest(Case):
    program = program_of(f="[0..3 [1; leave]; 0..3 [1; 0..2 leave]; 0..* {1 | return}; 0..3 {1 | [2; {3 | leave}]}]", g="5")

    def test_names(self):
        for change in (split, unrolled):
            for value in STRANGE + ["h", 5, "F", Same(), Call("f"), ("f",)]:
                self.refuses(UnknownName, {"name": value}, change, self.program, value, "no", "no")

    def test_indexes(self):
        for change in (split, unrolled):
            for value in STRANGE + [-1, 5, TOP, -TOP, Same(), 1.0]:
                self.refuses(InvalidLoop, {"value": value}, change, self.program, "f", value, "no")
            for value in [0, -1, 1]:
                self.refuses(InvalidLoop, {"value": value}, change, self.program, "g", value, 1)
            self.assertEqual(len(loops_of(self.program["f"])), 5)

    def test_leaves(self):
        for change in (split, unrolled):
            # The Leave of the loop 2 leaves that one, which is in the loop 1.
            for index in [0, 2, 4]:
                self.refuses(InvalidLoop, {"value": index}, change, self.program, "f", index, "no")
                self.refuses(InvalidLoop, {"value": index}, change, self.program, "f", index, 1)
            for index in [1, 3]:
                self.assertIsInstance(change(self.program, "f", index, 1), Program)

    def test_counts(self):
        for value in STRANGE + [0, -1, -TOP, TOP + 1, 10 ** 60, Same(), 2.0]:
            for change in (split, unrolled):
                self.refuses(InvalidTurns, {"value": value}, change, self.program, "f", 1, value)
        for value in [201, TOP, TOP - 1]:
            self.refuses(InvalidTurns, {"value": value}, unrolled, self.program, "f", 1, value)
            self.assertIsInstance(split(self.program, "f", 1, value), Program)
        # 200 may be taken, but no code is so great that there would be 200 codes in it.
        self.refuses(InvalidCode, {"value": None}, unrolled, self.program, "f", 1, 200)
        self.refuses(InvalidCode, {"value": None}, unrolled, program_of(f="0..0 1"), "f", 0, 200)
        self.assertIsInstance(split(self.program, "f", 1, 200), Program)

    def test_lows_without_a_high(self):
        program = program_of(f=f"{TOP}..* 1", g=f"{TOP - 1}..* 1", h=f"{TOP}..{TOP} 1")
        for change in (split, unrolled):
            self.refuses(InvalidTurns, {"value": 1}, change, program, "f", 0, 1)
            changed = change(program, "g", 0, 1)["g"]
            self.assertEqual([piece.low for piece in changed.parts()[1].parts()], [TOP, 0])
            self.assertEqual(change(program, "f", 0, 2)["f"].parts()[1].parts()[0].low, TOP // 2 + 1)
            self.assertIsInstance(change(program, "h", 0, 1), Program)
        # This one comes ahead of a code that is too great.
        program = Program("f", {"f": Loop(TOP, None, of_size(190))})
        self.refuses(InvalidTurns, {"value": 1}, split, program, "f", 0, 1)
        self.refuses(InvalidCode, {"value": None}, split, program, "f", 0, 2)

    def test_codes_that_become_too_great(self):
        # B and its Row, the inner Loop and the Look, the outer Row and the Loop behind: 6 codes, and the code twice.
        loop = Loop(3, 3, of_size(97))
        self.assertEqual(len(split(Program("f", {"f": loop}), "f", 0, 2)["f"]), 200)
        self.refuses(InvalidCode, {"value": None}, split, Program("f", {"f": Loop(3, 3, of_size(98))}), "f", 0, 2)
        self.refuses(InvalidCode, {"value": None}, split, Program("f", {"f": Row(loop)}), "f", 0, 2)
        # The outer Row, B, its Row and the Loop behind: 4 codes, and the code three times.
        loop = Loop(3, 3, of_size(65))
        self.assertEqual(len(unrolled(Program("f", {"f": loop}), "f", 0, 2)["f"]), 199)
        self.refuses(InvalidCode, {"value": None}, unrolled, Program("f", {"f": Loop(3, 3, of_size(66))}), "f", 0, 2)
        self.refuses(InvalidCode, {"value": None}, unrolled, Program("f", {"f": Loop(3, 3, of_size(65))}), "f", 0, 3)
        program = Program("f", {"f": Loop(0, 200, Work(1))})
        # Three ways of 66 codes, and the Either.
        self.assertEqual(len(unrolled(program, "f", 0, 61)["f"]), 199)
        self.refuses(InvalidCode, {"value": None}, unrolled, program, "f", 0, 62)

    def test_codes_that_become_too_deep(self):
        for change, depth in [(split, 21), (unrolled, 22)]:
            program = Program("f", {"f": Loop(3, 3, nested(depth))})
            self.assertEqual(change(program, "f", 0, 2)["f"].depth(), 25)
            self.refuses(InvalidCode, {"value": None}, change, Program("f", {"f": Row(program["f"])}), "f", 0, 2)
            self.refuses(InvalidCode, {"value": None}, change, Program("f", {"f": Loop(3, 9, nested(depth))}), "f", 0, 2)

    def test_a_refused_program_stays(self):
        program = Program("f", {"f": Loop(3, 3, of_size(98))})
        self.refuses(InvalidCode, {"value": None}, split, program, "f", 0, 2)
        self.assertEqual(program, Program("f", {"f": Loop(3, 3, of_size(98))}))


class LoopWalksTest(Case):
    def compare(self, program, name, index, count):
        """That all walks of split and unrolled programs are those of the program, which has a high in each loop."""
        plain = {plain_steps(walk) for walk in finished_walks(program)}
        self.assertEqual({plain_steps(walk) for walk in finished_walks(unrolled(program, name, index, count))}, plain)
        wanted = {with_splits(plain_steps(walk), count) for walk in finished_walks(marked(program, name, index))}
        self.assertEqual({plain_steps(walk) for walk in finished_walks(split(program, name, index, count))}, wanted)

    def test_turn_by_turn(self):
        for texts, most in [(PLAIN, 4), (OTHER, 3)]:
            bounds = [(low, high) for high in range(most + 1) for low in range(high + 1)]
            for text in texts:
                for low, high in bounds:
                    program = program_of(f=f"[{low}..{high} {text}; 3]", g="{2 | !}" if "call" in text else "1")
                    for count in range(1, most + 3):
                        self.compare(program, "f", 0, count)

    def test_turn_by_turn_without_a_high(self):
        for text, most in [("7", 6), ("[7; ?a]", 6), ("[7; {1 | return}]", 6), ("[7; {[] | ?a:2}; 1]", 4)]:
            for low in range(most):
                program = program_of(f=f"{low}..* {text}")
                for count in range(1, most + 1):
                    wanted = self.few(marked(program, "f", 0), most, most)
                    found = self.few(split(program, "f", 0, count), most // count + 1, most)
                    self.assertEqual(found, {with_splits(steps, count) for steps in wanted})
                    found = self.few(unrolled(program, "f", 0, count), most // count + 1, most)
                    self.assertEqual(found, self.few(program, most, most))

    def few(self, program, turns, most):
        """The walks with so many works of 7 at most."""
        walks = {plain_steps(walk) for walk in finished_walks(program, turns, 20000)}
        return {steps for steps in walks if steps.count(("work", 7)) <= most}

    def test_loops_in_loops(self):
        program = program_of(f="0..2 [5; 1..3 [7; {[] | ?a}]; 0..1 4]")
        for index in range(3):
            for count in (1, 2, 3):
                self.compare(program, "f", index, count)

    def test_looks_on_walks_of_so_many_turns(self):
        program = program_of(f="0..20 [1; 2]")
        for count in range(1, 23):
            changed = split(program, "f", 0, count)
            looks = {}
            for walk in finished_walks(changed):
                turns = walk.steps().count(("work", 2))
                self.assertEqual(walk.looks(), ["split"] * (turns // count))
                self.assertEqual(walk.stretches(), [3 * count] * (turns // count) + [3 * (turns % count)])
                looks[turns] = True
            self.assertEqual(sorted(looks), list(range(21)))
            self.assertEqual(span_of(changed), Span(3 * min(count, 20)))

    def test_returns(self):
        program = program_of(f="[2..7 [7; {1 | return}]; 9]")
        for count in range(1, 9):
            self.compare(program, "f", 0, count)

    def test_by_chance(self):
        rng = generator(171)
        compared = 0
        for _ in range(900):
            program = random_tree_of_calls(rng)
            loops = [(name, k) for name in program.names() for k in range(len(loops_of(program[name])))]
            if not loops:
                continue
            name, index = rng.choice(loops)
            try:
                self.compare(program, name, index, rng.choice([1, 2, 2, 3, 4]))
                compared += 1
            except (InvalidLoop, InvalidCode, TooMany):
                pass
        self.assertGreater(compared, 200)

    def test_numbers(self):
        rng = generator(172)
        compared = 0
        for k in range(900):
            program = Program(*random_program(rng)) if k % 3 else random_tree_of_calls(rng)
            name = rng.choice(program.names())
            loops = loops_of(program[name])
            if loops:
                index, count = rng.randrange(len(loops)), rng.choice([1, 2, 3, 5])
                compared += self.numbers(program, name, index, count)
        self.assertGreater(compared, 150)

    def numbers(self, program, name, index, count):
        try:
            plain, looked = unrolled(program, name, index, count), split(program, name, index, count)
        except (InvalidLoop, InvalidCode):
            return 0
        self.assertEqual(called_numbers(plain), called_numbers(program))
        self.assertEqual(span_of(plain), span_of(program))
        self.assertLessEqual(span_of(looked), span_of(program))
        self.assertGreaterEqual(most_looks(looked), most_looks(program))
        for changed in (plain, looked):
            trail = longest_trail(changed)
            self.assertEqual(span_of(changed), Span(trail.greatest) if trail else Span.endless())
        return 1

    def test_endless_loops(self):
        program = program_of(f="0..* 5")
        self.assertEqual(endless_loops(unrolled(program, "f", 0, 3)), [("f", 2)])
        self.assertEqual(endless_loops(split(program, "f", 0, 3)), [])
        self.assertEqual(span_of(split(program, "f", 0, 3)), Span(15))
        program = program_of(f="[2; 1..* 5; 4]")
        # 2, 5 and 4 without a look, or 2 and three turns; three turns, or two turns and 4 behind a look.
        self.assertEqual(span_of(split(program, "f", 0, 3)), Span(17))

    def test_places_rules_and_placings_of_changed_programs(self):
        program = split(program_of(f="0..5 2", g="1"), "f", 0, 2)
        self.assertEqual([place for place in places_of(program, "back") if place[1] == "f"],
                         [("back", "f", k) for k in range(9)])
        self.assertEqual(span_of(ruled(program, Rule.at_backs())), Span(2))
        backs = [("back", "f", k) for k in range(9)]
        # The first way has no bundle: without a look on it there are looks enough.
        self.assertEqual(Placings(program, backs, limit=Span(3)).least(), [(backs[4], backs[7])])
        self.assertEqual(Placings(program, backs, limit=Span(4)).least(), [()])
        placings = Placings(unrolled(program_of(f="0..* 2"), "f", 0, 2), [("back", "f", 2), ("work", "f", 3)])
        self.assertEqual(placings.least(), [(("work", "f", 3),), (("back", "f", 2),)])


class InlinedTest(Case):
    def show(self, program, name, **wanted):
        changed = inlined(program, name)
        self.assertEqual({other: show_code(changed[other]) for other in changed.names()}, wanted)
        self.assertEqual(changed.first, program.first)

    def test_without_a_return(self):
        program = program_of(f="[1; call g; {call g | 2}]", g="[3; 0..2 {?a | leave}]")
        self.show(program, "g", f="[1; [3; 0..2 {?a | leave}]; {[3; 0..2 {?a | leave}] | 2}]")
        self.show(program_of(f="call g", g="5"), "g", f="5")

    def test_with_returns(self):
        self.show(program_of(f="[1; call g]", g="[2; return; 3]"), "g", f="[1; 1..1 [2; leave; 3]]")
        self.show(program_of(f="[1; call g]", g="return"), "g", f="[1; 1..1 leave]")
        self.show(program_of(f="0..3 call g", g="[{return | [?a; return] | 0..4 leave}; {5 | return}]"), "g",
                  f="0..3 1..1 [{leave | [?a; leave] | 0..4 leave}; {5 | leave}]")

    def test_a_return_in_a_loop(self):
        for text in ["0..1 return", "[return; 0..* {1 | [2; return]}]", "0..0 return", "0..2 0..2 {leave | return}"]:
            program = program_of(f="call g", g=text)
            self.refuses(CannotInline, {"name": "g"}, inlined, program, "g")
        self.show(program_of(f="0..3 [call g; return]", g="1"), "g", f="0..3 [1; return]")

    def test_rings(self):
        program = program_of(f="[call g; call h; call k]", g="[1; call g]", h="[1; call i]", i="[2; call h]", k="[3; call g]")
        for name in "ghi":
            self.refuses(CannotInline, {"name": name}, inlined, program, name)
        self.show(program, "k", f="[call g; call h; [3; call g]]", g="[1; call g]", h="[1; call i]", i="[2; call h]")
        self.refuses(CannotInline, {"name": "f"}, inlined, program_of(f="{1 | call f}"), "f")
        self.refuses(CannotInline, {"name": "g"}, inlined, program_of(f="1", g="{return | call g}"), "g")

    def test_the_first_function(self):
        self.show(program_of(f="[1; call g]", g="2", h="[call f; 3]"), "f", f="[1; call g]", g="2", h="[[1; call g]; 3]")
        self.show(program_of(f="[1; return]", h="call f"), "f", f="[1; return]", h="1..1 [1; leave]")
        self.show(program_of(f="5"), "f", f="5")

    def test_a_function_that_nobody_calls(self):
        program = program_of(f="1", g="[2; return; call h]", h="3")
        self.show(program, "g", f="1", h="3")
        self.show(program, "h", f="1", g="[2; return; 3]")
        self.show(program, "f", f="1", g="[2; return; call h]", h="3")
        self.refuses(CannotInline, {"name": "g"}, inlined, program_of(f="1", g="0..1 return"), "g")

    def test_calls_in_several_functions(self):
        program = program_of(f="[call g; call h]", g="[1; call h; !]", h="{2 | call k}", k="[3; return]")
        self.show(program, "h", f="[call g; {2 | call k}]", g="[1; {2 | call k}; !]", k="[3; return]")
        self.show(program, "k", f="[call g; call h]", g="[1; call h; !]", h="{2 | 1..1 [3; leave]}")
        self.show(program, "g", f="[[1; call h; !]; call h]", h="{2 | call k}", k="[3; return]")
        self.show(inlined(program, "k"), "h", f="[call g; {2 | 1..1 [3; leave]}]", g="[1; {2 | 1..1 [3; leave]}; !]")

    def test_a_leave_around_the_call(self):
        program = program_of(f="0..4 [1; call g; {2 | leave}]", g="[3; {[] | return}; 4]")
        self.show(program, "g", f="0..4 [1; 1..1 [3; {[] | leave}; 4]; {2 | leave}]")
        self.compare(program, "g")

    def test_arguments(self):
        program = program_of(f="[call g; !]", g="1", h="2")
        self.assertEqual(inlined(name="g", program=program), program_of(f="[1; !]", h="2"))
        self.assertEqual(program, program_of(f="[call g; !]", g="1", h="2"))
        for value in STRANGE + ["k", "G", 5, Same(), Call("g"), ("g",), b"g"]:
            self.refuses(UnknownName, {"name": value}, inlined, program, value)

    def test_codes_that_become_too_great(self):
        program = Program("f", {"f": Row(Call("g"), Work(1)), "g": of_size(198)})
        self.assertEqual(len(inlined(program, "g")["f"]), 200)
        self.refuses(InvalidCode, {"value": None}, inlined, program.with_function("g", of_size(199)), "g")
        self.refuses(InvalidCode, {"value": None}, inlined, program.with_function("f", Row(Call("g"), Call("g"))), "g")
        program = Program("f", {"f": Row(Row(Call("g"))), "g": nested(23)})
        self.assertEqual(inlined(program, "g")["f"].depth(), 25)
        self.refuses(InvalidCode, {"value": None}, inlined, program.with_function("g", nested(24)), "g")
        # A Return makes a loop around the code.
        program = Program("f", {"f": Row(Call("g")), "g": Row(Return(), nested(23))})
        self.refuses(InvalidCode, {"value": None}, inlined, program, "g")
        # One function may become too great that the first one does not come to.
        program = Program("f", {"f": Work(1), "g": of_size(150), "h": Row(Call("g"), Call("g"))})
        self.refuses(InvalidCode, {"value": None}, inlined, program, "g")

    def compare(self, program, name):
        changed = inlined(program, name)
        self.assertEqual(changed.names(), [other for other in program.names() if other != name or other == program.first])
        numbers = called_numbers(program)
        self.assertEqual(called_numbers(changed), {other: numbers[other] for other in changed.names()})
        for other in changed.names():
            one, two = program.with_first(other), changed.with_first(other)
            self.assertEqual(span_of(one), span_of(two))
            self.assertEqual({plain_steps(walk) for walk in finished_walks(one)},
                             {plain_steps(walk) for walk in finished_walks(two)})
            self.assertEqual({tuple(walk.stretches()) for walk in finished_walks(one)},
                             {tuple(walk.stretches()) for walk in finished_walks(two)})

    def test_the_span_ahead_and_behind(self):
        program = program_of(f="[2; call g; 3]", g="[4; {?a | return | 5}; 6]")
        self.assertEqual(span_of(program), Span(20))
        self.compare(program, "g")
        program = program_of(f="[2; 0..3 call g; 3]", g="[4; {[?a; 9] | [?b; return] | 5}; 6]")
        self.compare(program, "g")

    def test_by_chance(self):
        rng = generator(173)
        compared = {True: 0, False: 0}
        for _ in range(700):
            program = random_tree_of_calls(rng)
            name = rng.choice(program.names())
            self.assertEqual(rings(program), [])
            if self.returns_in_loops(program[name]):
                self.refuses(CannotInline, {"name": name}, inlined, program, name)
                continue
            try:
                self.compare(program, name)
                compared[Return() in pieces_of(program[name])] += 1
            except (InvalidCode, TooMany):
                pass
        self.assertGreater(min(compared.values()), 40)

    def returns_in_loops(self, code):
        return any(Return() in list(pieces_of(loop)) for loop in loops_of(code))

    def test_no_return_is_left(self):
        changed = inlined(program_of(f="call g", g="[{return | 1}; return]"), "g")
        self.assertEqual(changed["f"], Loop(1, 1, Row(Either(Leave(), Work(1)), Leave())))


if __name__ == "__main__":
    unittest.main()
