"""Points 7 and 8 and stoppoints/walks.py."""

import itertools
import unittest

from stoppoints.codes import Call, Either, Leave, Look, Loop, Return, Row, Stand, Work
from stoppoints.errors import InvalidChoice, InvalidNumber, LimitExceeded
from stoppoints.programs import Program
from stoppoints.walks import Walk, roads

from cases import STRANGE, TOP, Case
from samples import Simulation, generator, random_choices, random_program


def walk_of(code, choices=(), **functions):
    """The walk through a code as the only function f, or beside others."""
    return Walk(Program("f", {"f": code, **functions}), list(choices))


def roads_of(code, most, turns, **functions):
    return list(roads(Program("f", {"f": code, **functions}), most=most, turns=turns))


class StepsTest(Case):
    def test_work(self):
        walk = walk_of(Work(5))
        self.assertEqual(walk.steps(), [("work", 5)])
        self.assertEqual(walk.stretches(), [5])
        self.assertEqual((walk.time, walk.greatest, len(walk)), (5, 5, 1))
        self.assertIs(walk.done, True)
        self.assertIsNone(walk.waits)

    def test_nothing(self):
        walk = walk_of(Row())
        self.assertEqual(walk.steps(), [])
        self.assertEqual(walk.stretches(), [0])
        self.assertEqual((walk.time, walk.greatest, len(walk), walk.looks()), (0, 0, 0, []))
        self.assertIs(walk.done, True)

    def test_look(self):
        walk = walk_of(Row(Work(2), Look("a", 3), Work(4), Look("b"), Look("a")))
        self.assertEqual(walk.steps(), [("work", 2), ("look", "a"), ("work", 4), ("look", "b"), ("look", "a")])
        self.assertEqual(walk.stretches(), [5, 4, 0, 0])
        self.assertEqual((walk.time, walk.greatest), (9, 5))
        self.assertEqual(walk.looks(), ["a", "b", "a"])

    def test_stand(self):
        walk = walk_of(Row(Work(2), Stand(), Work(7), Stand(), Stand(), Work(1)))
        self.assertEqual(walk.steps(), [("work", 2), ("stand",), ("work", 7), ("stand",), ("stand",), ("work", 1)])
        self.assertEqual(walk.stretches(), [2, 7, 0, 1])
        self.assertEqual((walk.time, walk.greatest, walk.looks()), (10, 7, []))

    def test_either(self):
        code = Row(Work(1), Either(Work(2), Row(), Work(4)), Work(8))
        self.assertEqual(walk_of(code, [0]).time, 11)
        self.assertEqual(walk_of(code, [1]).steps(), [("work", 1), ("work", 8)])
        self.assertEqual(walk_of(code, [2]).stretches(), [13])

    def test_loop(self):
        code = Loop(1, 3, Row(Work(2), Look("a")))
        self.assertEqual(walk_of(code, [2]).steps(),
                         [("turn", 1), ("work", 2), ("look", "a"), ("turn", 2), ("work", 2), ("look", "a")])
        self.assertEqual(walk_of(code, [3]).stretches(), [2, 2, 2, 0])
        self.assertEqual(walk_of(Loop(0, 0, Work(1)), [0]).steps(), [])
        self.assertEqual(walk_of(Loop(2, 2, Work(1)), [2]).time, 2)

    def test_nested_loops_choose_anew(self):
        code = Loop(0, None, Loop(0, 2, Work(1)))
        walk = walk_of(code, [3, 1, 0, 2])
        self.assertEqual(walk.steps(), [("turn", 1), ("turn", 1), ("work", 1), ("turn", 2), ("turn", 3),
                                        ("turn", 1), ("work", 1), ("turn", 2), ("work", 1)])
        self.assertIs(walk.done, True)

    def test_leave_in_the_first_turn(self):
        code = Row(Loop(2, 5, Row(Work(1), Leave(), Work(2))), Work(4))
        for turns in [2, 3, 5]:
            walk = walk_of(code, [turns])
            self.assertEqual(walk.steps(), [("turn", 1), ("work", 1), ("work", 4)])
            self.assertIs(walk.done, True)

    def test_leave_in_a_later_turn(self):
        code = Row(Loop(0, None, Row(Work(1), Either(Work(2), Leave()), Work(4))), Work(8))
        walk = walk_of(code, [7, 0, 0, 1])
        self.assertEqual(walk.steps(), [
            ("turn", 1), ("work", 1), ("work", 2), ("work", 4),
            ("turn", 2), ("work", 1), ("work", 2), ("work", 4),
            ("turn", 3), ("work", 1), ("work", 8)])
        self.assertIs(walk.done, True)

    def test_leave_ends_the_innermost_loop(self):
        code = Loop(2, 2, Row(Loop(3, 3, Row(Work(1), Leave())), Work(4)))
        self.assertEqual(walk_of(code, [2, 3, 3]).steps(), [
            ("turn", 1), ("turn", 1), ("work", 1), ("work", 4), ("turn", 2), ("turn", 1), ("work", 1), ("work", 4)])
        code = Loop(2, 2, Row(Loop(1, 1, Work(1)), Leave(), Work(4)))
        self.assertEqual(walk_of(code, [2, 1]).steps(), [("turn", 1), ("turn", 1), ("work", 1)])

    def test_return(self):
        walk = walk_of(Row(Work(1), Return(), Work(2)))
        self.assertEqual(walk.steps(), [("work", 1)])
        self.assertIs(walk.done, True)

    def test_return_from_within_loops(self):
        code = Row(Loop(3, 3, Loop(0, 2, Either(Work(1), Row(Look("a"), Return())))), Work(8))
        walk = walk_of(code, [3, 2, 0, 0, 1, 1])
        self.assertEqual(walk.steps(), [("turn", 1), ("turn", 1), ("work", 1), ("turn", 2), ("work", 1),
                                        ("turn", 2), ("turn", 1), ("look", "a")])
        self.assertIs(walk.done, True)
        self.assertEqual(walk.stretches(), [2, 0])

    def test_calls_within_calls(self):
        code = Row(Work(1), Call("g"), Call("h"), Work(2))
        walk = walk_of(code, g=Row(Call("h"), Look("a"), Call("h")), h=Work(4))
        self.assertEqual(walk.steps(), [
            ("work", 1), ("call", "g"), ("call", "h"), ("work", 4), ("look", "a"), ("call", "h"), ("work", 4),
            ("call", "h"), ("work", 4), ("work", 2)])
        self.assertEqual(walk.stretches(), [5, 10])

    def test_return_ends_the_called_function_only(self):
        code = Row(Loop(2, 2, Call("g")), Work(3))
        walk = walk_of(code, [2, 1, 1], g=Row(Loop(1, 1, Row(Work(1), Return())), Work(9)))
        self.assertEqual(walk.steps(), [("turn", 1), ("call", "g"), ("turn", 1), ("work", 1),
                                        ("turn", 2), ("call", "g"), ("turn", 1), ("work", 1), ("work", 3)])
        self.assertIs(walk.done, True)

    def test_leave_behind_a_call(self):
        code = Row(Loop(5, 5, Row(Call("g"), Leave())), Work(3))
        walk = walk_of(code, [5], g=Work(1))
        self.assertEqual(walk.steps(), [("turn", 1), ("call", "g"), ("work", 1), ("work", 3)])

    def test_the_first_function_is_gone_through(self):
        program = Program("g", {"a": Work(1), "g": Work(2), "z": Work(4)})
        self.assertEqual(program([]).time, 2)
        self.assertEqual(program.with_first("z")([]).time, 4)

    def test_great_times(self):
        walk = walk_of(Loop(3, 3, Row(Work(TOP), Look("a", TOP))), [3])
        self.assertEqual(walk.time, 6 * TOP)
        self.assertEqual(walk.stretches(), [2 * TOP, 2 * TOP, 2 * TOP, 0])

    def test_example_of_the_document(self):
        code = Row(Work(2), Loop(0, None, Either(Look("a"), Work(3))))
        walk = walk_of(code, [3, 1, 0, 1])
        self.assertEqual([walk.stretches(), walk.done, walk.looks(), walk.rest(0), walk.rest(5)],
                         [[5, 3], True, ["a"], 5, 3])


class WaitsTest(Case):
    def test_at_an_either(self):
        walk = walk_of(Row(Work(3), Either(Work(1), Work(2), Work(4)), Work(8)))
        self.assertEqual(walk.waits, ("either", 3))
        self.assertIs(walk.done, False)
        self.assertEqual((walk.steps(), walk.time), ([("work", 3)], 3))
        self.assertEqual(walk_of(Either(Work(1), Work(2))).waits, ("either", 2))

    def test_at_a_loop(self):
        for low, high in [(0, 0), (2, 5), (3, None), (4, 4)]:
            walk = walk_of(Row(Look("a"), Loop(low, high, Work(1))))
            self.assertEqual(walk.waits, ("turns", low, high))
            self.assertIs(walk.done, False)
            self.assertEqual(walk.stretches(), [0, 0])

    def test_within_a_loop_and_a_call(self):
        walk = walk_of(Loop(0, 5, Row(Work(1), Call("g"))), [2, 0], g=Either(Work(2), Look("b")))
        self.assertEqual(walk.waits, ("either", 2))
        self.assertEqual(walk.steps()[-3:], [("turn", 2), ("work", 1), ("call", "g")])

    def test_no_choice_needed(self):
        self.assertIsNone(walk_of(Row(Work(1), Call("g")), g=Work(1)).waits)


class ChoicesTest(Case):
    def test_at_an_either(self):
        code = Row(Either(Work(1), Work(2)), Either(Work(1), Work(2), Work(3)))
        for value in STRANGE + [-1, 2, TOP]:
            self.refuses(InvalidChoice, {"index": 0}, walk_of, code, [value])
        for value in STRANGE + [-1, 3, TOP]:
            self.refuses(InvalidChoice, {"index": 1}, walk_of, code, [1, value])
        self.assertEqual(walk_of(code, [1, 2]).time, 5)

    def test_at_a_loop(self):
        code = Loop(2, 4, Work(1))
        for value in STRANGE + [-1, 0, 1, 5, TOP]:
            self.refuses(InvalidChoice, {"index": 0}, walk_of, code, [value])
            self.refuses(InvalidChoice, {"index": 0}, walk_of, code, [value, 0])
        for value in [2, 3, 4]:
            self.assertEqual(walk_of(code, [value]).time, value)

    def test_at_a_loop_without_high(self):
        code = Loop(2, None, Row())
        for value in STRANGE + [-1, 0, 1]:
            self.refuses(InvalidChoice, {"index": 0}, walk_of, code, [value])
        for value in [2, 3, 500]:
            self.assertEqual(len(walk_of(code, [value])), value)

    def test_choices_that_are_left_over(self):
        self.refuses(InvalidChoice, {"index": 0}, walk_of, Work(1), [0])
        self.refuses(InvalidChoice, {"index": 0}, walk_of, Work(1), [None, 1])
        self.refuses(InvalidChoice, {"index": 1}, walk_of, Loop(0, 2, Work(1)), [2, 0, 0])
        self.refuses(InvalidChoice, {"index": 2}, walk_of, Loop(0, 2, Either(Work(1), Return())), [2, 1, 1])
        self.refuses(InvalidChoice, {"index": 2}, walk_of, Loop(0, 2, Either(Work(1), Leave())), [2, 1, "x"])

    def test_the_first_wrong_choice_counts(self):
        code = Loop(0, 9, Either(Work(1), Work(2)))
        self.refuses(InvalidChoice, {"index": 3}, walk_of, code, [9, 0, 1, 2, 5, 5])

    def test_choices_stay(self):
        choices = [1, 0]
        walk = Walk(Program("f", {"f": Loop(0, 1, Either(Work(1), Work(2)))}), choices)
        self.assertEqual(choices, [1, 0])
        choices.append(7)
        self.assertEqual(walk.time, 1)

    def test_parameters_by_name(self):
        walk = Walk(choices=[1], program=Program("f", {"f": Either(Work(1), Work(2))}))
        self.assertEqual(walk.time, 2)
        self.assertEqual(walk.rest(k=0), 2)


class LimitTest(Case):
    def test_5000_and_5001_turns(self):
        code = Loop(0, None, Row())
        self.assertEqual(len(walk_of(code, [5000])), 5000)
        self.assertIs(walk_of(code, [5000]).done, True)
        self.refuses(LimitExceeded, {"limit": 5000}, walk_of, code, [5001])

    def test_5000_and_5001_steps_of_all_kinds(self):
        turn = Row(Work(1), Look("a"), Stand(), Call("g"))
        code = Row(Loop(1000, 1000, turn), Loop(0, 1, Row()))
        walk = walk_of(code, [1000, 0], g=Row())
        self.assertEqual((len(walk), walk.time), (5000, 1000))
        self.refuses(LimitExceeded, {"limit": 5000}, walk_of, code, [1000, 1], g=Row())
        for more in [Work(0), Look("a"), Stand(), Call("g")]:
            self.refuses(LimitExceeded, {"limit": 5000}, walk_of, Row(Loop(1000, 1000, turn), more), [1000], g=Row())

    def test_5000_steps_and_a_choice(self):
        code = Row(Loop(0, None, Row()), Either(Row(), Work(1)))
        self.assertEqual(walk_of(code, [5000]).waits, ("either", 2))
        self.assertIs(walk_of(code, [5000, 0]).done, True)
        self.refuses(LimitExceeded, {"limit": 5000}, walk_of, code, [5000, 1])

    def test_great_turns_with_nothing_in_them(self):
        for turns in [10 ** 6, TOP]:
            self.refuses(LimitExceeded, {"limit": 5000}, walk_of, Loop(0, TOP, Row()), [turns])
        nothing = Row(Row(Row(), Row()), Row())
        self.refuses(LimitExceeded, {"limit": 5000}, walk_of, Loop(TOP, None, nothing), [TOP + 1])

    def test_great_turns_that_are_left(self):
        walk = walk_of(Loop(0, TOP, Row(Work(2), Leave())), [TOP])
        self.assertEqual(walk.steps(), [("turn", 1), ("work", 2)])

    def test_rings_without_an_end(self):
        self.refuses(LimitExceeded, {"limit": 5000}, walk_of, Call("f"))
        self.refuses(LimitExceeded, {"limit": 5000}, walk_of, Call("g"), g=Call("f"))
        self.refuses(LimitExceeded, {"limit": 5000}, walk_of, Row(Work(1), Loop(1, 1, Call("g"))), [1],
                     g=Row(Look("a"), Call("g"), Work(2)))

    def test_deep_calls(self):
        code = Either(Work(7), Row(Call("f"), Look("a")))
        walk = walk_of(code, [1] * 2400 + [0])
        self.assertEqual((len(walk), walk.time), (4801, 7))
        self.assertIs(walk.done, True)
        code = Either(Work(7), Call("f"))
        self.assertEqual(len(walk_of(code, [1] * 4999 + [0])), 5000)
        self.refuses(LimitExceeded, {"limit": 5000}, walk_of, code, [1] * 5000 + [0])
        self.assertEqual(walk_of(code, [1] * 5000).waits, ("either", 2))

    def test_the_error_that_comes_first(self):
        code = Loop(0, None, Row())
        self.refuses(InvalidChoice, {"index": 1}, walk_of, code, [5000, 1])
        self.refuses(LimitExceeded, {"limit": 5000}, walk_of, code, [5001, 1])
        code = Row(Loop(0, None, Row()), Loop(0, 1, Work(1)))
        self.refuses(InvalidChoice, {"index": 1}, walk_of, code, [5000, 2])
        self.refuses(LimitExceeded, {"limit": 5000}, walk_of, code, [5001, 2])
        code = Either(Work(7), Call("f"))
        self.refuses(InvalidChoice, {"index": 5000}, walk_of, code, [1] * 5000 + [2])
        self.refuses(LimitExceeded, {"limit": 5000}, walk_of, code, [1] * 5001 + [2])
        self.refuses(InvalidChoice, {"index": 3}, walk_of, code, [1, 1, 1, "x"] + [1] * 6000)


class RestTest(Case):
    CODE = Row(Work(1), Work(2), Look("a", 4), Work(8), Call("g"), Loop(1, 1, Work(32)), Work(64))
    G = Row(Work(16), Stand())

    def test_rests(self):
        walk = walk_of(self.CODE, [1], g=self.G)
        self.assertEqual(walk.stretches(), [7, 24, 96])
        self.assertEqual([walk.rest(k) for k in range(11)], [7, 6, 4, 24, 16, 16, 0, 96, 96, 64, 0])

    def test_rest_of_none_and_of_all_steps(self):
        walk = walk_of(Row(Work(3), Work(4)))
        self.assertEqual([walk.rest(0), walk.rest(1), walk.rest(2)], [7, 4, 0])
        walk = walk_of(Row(Work(3), Look("a", 2)))
        self.assertEqual([walk.rest(0), walk.rest(1), walk.rest(2)], [5, 2, 0])
        self.assertEqual(walk_of(Row()).rest(0), 0)

    def test_rest_where_a_hand_waits(self):
        walk = walk_of(Row(Work(3), Either(Work(5), Work(6))))
        self.assertEqual([walk.rest(0), walk.rest(1)], [3, 0])

    def test_rest_of_wrong_numbers(self):
        walk = walk_of(Row(Work(3), Work(4)))
        for value in STRANGE + [-1, 3, TOP]:
            self.refuses(InvalidNumber, {"value": value}, walk.rest, value)
        self.refuses(InvalidNumber, {"value": 1}, walk_of(Row()).rest, 1)


class ListsTest(Case):
    def test_lists_are_new(self):
        walk = walk_of(Row(Work(2), Look("a"), Work(3)))
        walk.steps().append("x")
        walk.stretches().append(9)
        walk.looks().append("b")
        self.assertEqual(walk.steps(), [("work", 2), ("look", "a"), ("work", 3)])
        self.assertEqual(walk.stretches(), [2, 3])
        self.assertEqual(walk.looks(), ["a"])
        self.assertEqual((walk.greatest, len(walk), walk.rest(0)), (3, 3, 2))
        for told in [walk.steps(), walk.stretches(), walk.looks()]:
            self.assertIs(type(told), list)


class SimulationTest(Case):
    def test_walks_by_chance(self):
        rng = generator(8)
        done = 0
        for _ in range(1500):
            first, functions = random_program(rng)
            program = Program(first, functions)
            try:
                choices = random_choices(rng, program, 8)
                wanted = Simulation(program, choices)
            except RecursionError:
                continue
            done += self.check_walk(program, choices, wanted)
        self.assertGreater(done, 400)

    def check_walk(self, program, choices, wanted):
        if wanted.wrong is not None:
            kind, told = wanted.wrong
            if kind == "limit":
                self.refuses(LimitExceeded, {"limit": told}, program, choices)
            else:
                self.refuses(InvalidChoice, {"index": told}, program, choices)
            return 0
        walk = program(choices)
        self.assertEqual(walk.steps(), wanted.steps)
        self.assertEqual(walk.stretches(), wanted.stretches())
        self.assertEqual((walk.waits, walk.done), (wanted.waits, wanted.waits is None))
        self.assertEqual((walk.time, walk.greatest), (sum(wanted.times), max(wanted.stretches())))
        self.assertEqual(walk.looks(), [step[1] for step in wanted.steps if step[0] == "look"])
        many = len(walk)
        self.assertEqual(many, len(wanted.steps))
        self.assertEqual([walk.rest(k) for k in range(many + 1)], [wanted.rest(k) for k in range(many + 1)])
        return 1


class RoadsTest(Case):
    def test_no_choice(self):
        self.assertEqual(roads_of(Work(1), 0, 0), [[]])
        self.assertEqual(roads_of(Work(1), 12, 9), [[]])
        self.assertEqual(roads_of(Row(), 3, 3), [[]])

    def test_either(self):
        code = Row(Either(Work(1), Row(Work(2), Either(Row(), Stand()))), Either(Row(), Row(), Row()))
        self.assertEqual(roads_of(code, 0, 9), [])
        self.assertEqual(roads_of(code, 1, 9), [])
        self.assertEqual(roads_of(code, 2, 9), [[0, 0], [0, 1], [0, 2]])
        self.assertEqual(roads_of(code, 3, 0), [
            [0, 0], [0, 1], [0, 2], [1, 0, 0], [1, 0, 1], [1, 0, 2], [1, 1, 0], [1, 1, 1], [1, 1, 2]])

    def test_turns(self):
        self.assertEqual(roads_of(Loop(0, None, Work(1)), 1, 0), [[0]])
        self.assertEqual(roads_of(Loop(0, None, Work(1)), 1, 2), [[0], [1], [2]])
        self.assertEqual(roads_of(Loop(0, None, Work(1)), 12, 9), [[k] for k in range(10)])
        self.assertEqual(roads_of(Loop(2, None, Work(1)), 1, 3), [[2], [3]])
        self.assertEqual(roads_of(Loop(2, 3, Work(1)), 1, 9), [[2], [3]])
        self.assertEqual(roads_of(Loop(2, 5, Work(1)), 1, 3), [[2], [3]])
        self.assertEqual(roads_of(Loop(2, 5, Work(1)), 1, 1), [])
        self.assertEqual(roads_of(Loop(TOP, None, Work(1)), 1, 9), [])
        self.assertEqual(roads_of(Loop(0, 0, Work(1)), 1, 9), [[0]])
        self.assertEqual(roads_of(Loop(0, 0, Work(1)), 0, 9), [])

    def test_turns_with_choices(self):
        code = Loop(0, None, Either(Work(1), Leave()))
        self.assertEqual(roads_of(code, 3, 2), [[0], [1, 0], [1, 1], [2, 0, 0], [2, 0, 1], [2, 1]])
        self.assertEqual(roads_of(code, 2, 2), [[0], [1, 0], [1, 1], [2, 1]])

    def test_either_is_not_bounded_by_turns(self):
        self.assertEqual(roads_of(Either(Work(1), Work(2), Work(3)), 1, 0), [[0], [1], [2]])

    def test_rings(self):
        code = Either(Work(1), Call("f"))
        self.assertEqual(roads_of(code, 4, 0), [[0], [1, 0], [1, 1, 0], [1, 1, 1, 0]])
        self.assertEqual(len(roads_of(code, 12, 0)), 12)

    def test_is_a_generator_of_new_lists(self):
        found = roads(Program("f", {"f": Loop(0, None, Either(Work(1), Work(2)))}), turns=9, most=12)
        told = next(found)
        self.assertEqual(told, [0])
        told.append(5)
        told = next(found)
        self.assertEqual(told, [1, 0])
        told[0] = 7
        told.append(5)
        told = next(found)
        self.assertEqual(told, [1, 1])
        self.assertEqual(next(found), [2, 0, 0])

    def test_wrong_numbers(self):
        program = Program("f", {"f": Work(1)})
        for value in STRANGE + [-1, 13, TOP]:
            begun = roads(program, most=value, turns=99)
            self.refuses(InvalidNumber, {"value": value}, next, begun)
        for value in STRANGE + [-1, 10, TOP]:
            begun = roads(program, most=0, turns=value)
            self.refuses(InvalidNumber, {"value": value}, next, begun)
        for most, turns in [(0, 0), (12, 9), (0, 9), (12, 0)]:
            self.assertEqual(list(roads(program, most=most, turns=turns)), [[]])

    def test_numbers_by_name_alone(self):
        with self.assertRaises(TypeError):
            list(roads(Program("f", {"f": Work(1)}), 1, 1))

    def test_wrong_numbers_come_before_the_limit(self):
        ring = Program("f", {"f": Call("f")})
        self.refuses(InvalidNumber, {"value": 13}, next, roads(ring, most=13, turns=0))
        self.refuses(InvalidNumber, {"value": 10}, next, roads(ring, most=0, turns=10))

    def test_limit(self):
        ring = Call("g")
        self.refuses(LimitExceeded, {"limit": 5000}, roads_of, Call("f"), 0, 0)
        self.refuses(LimitExceeded, {"limit": 5000}, roads_of, Either(Work(1), Call("g")), 1, 0, g=ring)
        self.refuses(LimitExceeded, {"limit": 5000}, roads_of, Row(Call("g"), Either(Row(), Row())), 0, 0, g=ring)
        self.refuses(LimitExceeded, {"limit": 5000}, roads_of, Loop(0, 9, Call("g")), 1, 1, g=ring)

    def test_limit_beyond_the_choices(self):
        ring = Call("g")
        self.assertEqual(roads_of(Loop(0, 9, Call("g")), 1, 0, g=ring), [[0]])
        self.assertEqual(roads_of(Either(Work(1), Call("g")), 0, 9, g=ring), [])
        code = Either(Work(1), Either(Work(2), Call("g")))
        self.assertEqual(roads_of(code, 1, 9, g=ring), [[0]])
        self.refuses(LimitExceeded, {"limit": 5000}, roads_of, code, 2, 9, g=ring)

    def test_limit_on_a_walk_that_would_choose_further(self):
        code = Loop(0, 9, Row(Call("g"), Either(Work(1), Work(2))))
        self.refuses(LimitExceeded, {"limit": 5000}, roads_of, code, 1, 1, g=Call("g"))

    def test_5000_steps_are_a_road(self):
        parts = [Work(1)] * 100
        code = Row(Call("g"), Call("g"))
        functions = {"g": Row(*[Call("h")] * 24, Row(*[Work(0)] * 51)), "h": Row(*parts, Row())}
        # 2 calls of g, with 24 calls of h, 24 times 100 works, and 51 works each.
        self.assertEqual(len(walk_of(code, **functions)), 4952)
        self.assertEqual(roads_of(Row(code, *[Work(0)] * 48), 0, 0, **functions), [[]])
        self.refuses(LimitExceeded, {"limit": 5000}, roads_of, Row(code, *[Work(0)] * 49), 0, 0, **functions)

    def test_against_all_lists(self):
        rng = generator(5)
        compared = 0
        for _ in range(150):
            program = Program(*random_program(rng))
            try:
                wanted = self.tried(program)
            except RecursionError:
                continue
            self.assertEqual(list(roads(program, most=4, turns=2)), wanted)
            compared += len(wanted)
        self.assertGreater(compared, 200)

    def tried(self, program):
        """The roads of at most 4 choices: an Either of these programs has up to three codes."""
        found = []
        for many in range(5):
            for choices in itertools.product(range(3), repeat=many):
                walk = Simulation(program, list(choices), 400)
                if walk.wrong == ("limit", 400):
                    raise RecursionError()
                if walk.wrong is None and walk.waits is None:
                    found.append(list(choices))
        return sorted(found)


if __name__ == "__main__":
    unittest.main()
