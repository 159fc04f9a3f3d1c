"""Point 19, guarantee (c) of point 3 and stoppoints/crews.py."""

import unittest

from stoppoints.crews import Crew
from stoppoints.errors import InvalidChoice, InvalidName, InvalidNumber, LimitExceeded, UnknownName
from stoppoints.programs import Program
from stoppoints.solving import span_of
from stoppoints.spans import Span
from stoppoints.texts import parse_code

from cases import STRANGE, TOP, Case, Same
from samples import choices_by_chance, generator, random_program, random_rings


def program_of(first="f", **texts):
    return Program(first, {name: parse_code(text) for name, text in texts.items()})


# The steps of [2, 1, 0] are turn 1, work 3, look a, work 4, turn 2, work 2, work 9.
PROGRAM = program_of(f="[0..* {2 | [3; ?a:1; 4]}; 9]")


class CrewTest(Case):
    def crew(self):
        crew = Crew(PROGRAM)
        crew["b"] = ([2, 1, 0], 0)
        crew["a"] = ([2, 1, 0], 3)
        crew["c"] = ([0], 1)
        return crew

    def test_hands(self):
        crew = self.crew()
        self.assertEqual(crew["b"], ([2, 1, 0], 0))
        self.assertEqual(crew["a"], ([2, 1, 0], 3))
        self.assertIs(type(crew["a"]), tuple)
        self.assertIs(type(crew["a"][0]), list)
        self.assertEqual((crew.names(), len(crew)), (["b", "a", "c"], 3))
        self.assertEqual((Crew(PROGRAM).names(), len(Crew(PROGRAM))), ([], 0))
        self.assertIs("a" in crew, True)
        for value in STRANGE + ["d", 0, "A", Same(), ("a",), b"a"]:
            self.assertIs(value in crew, False)

    def test_put(self):
        crew = Crew(program=PROGRAM)
        self.assertIsNone(crew.put("b", [2, 1, 0], 0))
        self.assertIsNone(crew.put(k=3, name="a", choices=[2, 1, 0]))
        self.assertIsNone(crew.put("c", [0], 1))
        other = self.crew()
        self.assertEqual([crew[name] for name in crew.names()], [other[name] for name in other.names()])
        self.assertEqual(crew.names(), other.names())

    def test_the_order_of_names(self):
        crew = self.crew()
        crew["b"] = ([], 0)
        self.assertEqual(crew.names(), ["b", "a", "c"])
        self.assertEqual(crew["b"], ([], 0))
        self.assertIsNone(crew.remove("b"))
        self.assertEqual(crew.names(), ["a", "c"])
        self.assertNotIn("b", crew)
        crew.put("b", [0], 0)
        self.assertEqual(crew.names(), ["a", "c", "b"])
        crew.remove(name="c")
        crew["c"] = ([], 0)
        self.assertEqual(crew.names(), ["a", "b", "c"])

    def test_wait(self):
        crew = self.crew()
        # b: the work 3 and the look; a: the works 4, 2 and 9; c: no step is left.
        self.assertEqual([crew.wait(name) for name in "bac"], [4, 15, 0])
        self.assertEqual(crew.wait("b", "c"), 4)
        self.assertEqual(crew.wait("c", "c", "b", "c"), 4)
        self.assertEqual(crew.wait("b", "a", "c"), 15)
        self.same(crew.wait(), 15)
        self.same(crew.wait("c"), 0)
        self.same(Crew(PROGRAM).wait(), 0)
        crew.remove("a")
        self.assertEqual(crew.wait(), 4)

    def test_each_number_of_steps(self):
        crew = Crew(PROGRAM)
        walk = PROGRAM([2, 1, 0])
        for k in range(len(walk) + 1):
            crew["a"] = ([2, 1, 0], k)
            self.assertEqual(crew.wait("a"), walk.rest(k))
            self.assertEqual(crew["a"], ([2, 1, 0], k))
        self.assertEqual([walk.rest(k) for k in range(8)], [4, 4, 1, 15, 11, 11, 9, 0])

    def test_choices_that_end_early(self):
        crew = Crew(PROGRAM)
        for choices, k, wait in [([], 0, 0), ([1], 0, 0), ([1], 1, 0), ([2, 0], 0, 2), ([2, 0], 2, 0), ([0], 0, 9)]:
            crew["a"] = (choices, k)
            self.assertEqual(crew.wait(), wait)

    def test_stands(self):
        crew = Crew(program_of(f="[3; !; 5; ?a:2; 4]"))
        for k, wait in enumerate([3, 0, 7, 2, 4, 0]):
            crew.put("a", [], k)
            self.assertEqual(crew.wait("a"), wait)

    def test_latest(self):
        crew = self.crew()
        self.assertEqual(crew.latest(), ["a"])
        crew["d"] = ([2, 1, 0], 3)
        self.assertEqual(crew.latest(), ["a", "d"])
        crew["b"] = ([2, 1, 0], 3)
        self.assertEqual(crew.latest(), ["b", "a", "d"])
        crew.remove("b")
        crew["b"] = ([2, 1, 0], 3)
        self.assertEqual(crew.latest(), ["a", "d", "b"])
        self.assertEqual(Crew(PROGRAM).latest(), [])
        crew = Crew(PROGRAM)
        crew["z"] = crew["y"] = ([0], 1)
        self.assertEqual(crew.latest(), ["z", "y"])

    def test_bound(self):
        self.same(Crew(PROGRAM).bound, Span.endless())
        self.same(Crew(program_of(f="[3; ?a; 5]")).bound, Span(5))
        self.same(Crew(program_of(f="[]")).bound, Span(0))

    def test_lists_that_are_changed_behind(self):
        crew = Crew(PROGRAM)
        choices = [2, 1, 0]
        crew["a"] = (choices, 0)
        crew.put("b", choices, 3)
        choices.clear()
        crew["a"][0].append(7)
        crew["b"][0].clear()
        crew.names().clear()
        crew.latest().clear()
        self.assertEqual((crew["a"], crew["b"]), (([2, 1, 0], 0), ([2, 1, 0], 3)))
        self.assertEqual((crew.wait("a"), crew.wait("b"), crew.latest()), (4, 15, ["b"]))
        self.assertEqual(crew.names(), ["a", "b"])

    def test_other_crews(self):
        one, other = Crew(PROGRAM), Crew(PROGRAM)
        one["a"] = ([0], 0)
        self.assertEqual((one.names(), other.names()), (["a"], []))

    def test_it_is_not_iterated_over(self):
        with self.assertRaises(TypeError):
            list(self.crew())


class ErrorsTest(Case):
    def setUp(self):
        self.crew = Crew(PROGRAM)
        self.crew["a"] = ([2, 1, 0], 3)
        self.crew["b"] = ([0], 0)

    def tearDown(self):
        # Whatever was refused, nothing has changed.
        self.assertEqual(self.crew.names(), ["a", "b"])
        self.assertEqual((self.crew["a"], self.crew["b"]), (([2, 1, 0], 3), ([0], 0)))
        self.assertEqual((self.crew.wait(), self.crew.latest()), (15, ["a"]))

    def set_item(self, name, value):
        self.crew[name] = value

    def get_item(self, name):
        return self.crew[name]

    def test_names_of_hands_that_are_set(self):
        for name in STRANGE + [0, "abcdefghi", "a b", "\xe4", "aB", Same(), ("a",)]:
            self.refuses(InvalidName, {"value": name}, self.set_item, name, "no")
            self.refuses(InvalidName, {"value": name}, self.set_item, name, ([7], 99))
            self.refuses(InvalidName, {"value": name}, self.crew.put, name, [7], "no")

    def test_items_that_are_no_tuples_of_two(self):
        for value in STRANGE + [0, [[0], 0], ([0],), ([0], 0, 0), (0,), Same(), "ab", {0: 0, 1: 0}, PROGRAM]:
            self.refuses(InvalidNumber, {"value": value}, self.set_item, "a", value)
            self.refuses(InvalidNumber, {"value": value}, self.set_item, "c", value)

    def test_choices_that_cannot_be_taken(self):
        for choices, index in [([-1], 0), ([True], 0), ([None], 0), (["1"], 0), ([1, 2], 1), ([1, -1], 1), ([2, 0, 5], 2),
                               ([1, 0, 0], 2), ([0, 0], 1), ([0, None], 1), ([Span(1)], 0), ([Same()], 0)]:
            for k in (0, 99, None):
                self.refuses(InvalidChoice, {"index": index}, self.set_item, "a", (choices, k))
                self.refuses(InvalidChoice, {"index": index}, self.crew.put, "c", choices, k)

    def test_walks_that_are_too_long(self):
        for k in (0, -1, 5001):
            self.refuses(LimitExceeded, {"limit": 5000}, self.set_item, "a", ([2500] + [0] * 2500, k))
            self.refuses(LimitExceeded, {"limit": 5000}, self.crew.put, "c", [TOP] + [0] * 2501, k)

    def test_numbers_of_steps(self):
        for k in STRANGE + [-1, 8, TOP, -TOP, Same(), 1.0]:
            self.refuses(InvalidNumber, {"value": k}, self.set_item, "a", ([2, 1, 0], k))
            self.refuses(InvalidNumber, {"value": k}, self.crew.put, "c", [2, 1, 0], k)
        self.refuses(InvalidNumber, {"value": 1}, self.crew.put, "c", [], 1)

    def test_names_that_are_not_in_the_crew(self):
        for value in STRANGE + ["c", 0, "A", Same(), ("a",), ["a"], {"a"}, b"a", "aa"]:
            self.refuses(UnknownName, {"name": value}, self.get_item, value)
            self.refuses(UnknownName, {"name": value}, self.crew.remove, value)
            self.refuses(UnknownName, {"name": value}, self.crew.wait, value)
            self.refuses(UnknownName, {"name": value}, self.crew.wait, "a", value, "d", None)
        self.refuses(UnknownName, {"name": "d"}, self.crew.wait, "a", "d", "c")


class WithinTest(Case):
    def test_a_hand_stands_within_the_span(self):
        rng = generator(191)
        at_span = 0
        for k in range(300):
            program = random_rings(rng) if k % 2 else Program(*random_program(rng))
            crew = Crew(program)
            self.assertEqual(crew.bound, span_of(program))
            for name in "abc":
                choices = choices_by_chance(rng, program, 8)
                if choices is not None:
                    crew.put(name, choices, rng.randint(0, len(program(choices))))
            self.assertLessEqual(Span(crew.wait()), crew.bound)
            at_span += Span(crew.wait()) == crew.bound and crew.wait() > 0
            waits = {name: program(crew[name][0]).rest(crew[name][1]) for name in crew.names()}
            self.assertEqual(crew.wait(), max(waits.values(), default=0))
            self.assertEqual(crew.latest(), [name for name in waits if waits[name] == crew.wait()])
            some = rng.sample(crew.names(), rng.randint(0, len(crew)))
            self.assertEqual(crew.wait(*some), max([waits[name] for name in some or waits], default=0))
        self.assertGreater(at_span, 10)

    def test_from_any_moment_of_all_walks(self):
        program = program_of(f="[2; 0..3 {[4; ?a:1] | [call g; 1]}; 2]", g="{[1; !; 3] | 5}")
        crew = Crew(program)
        greatest, todo = 0, [[]]
        while todo:
            choices = todo.pop()
            walk = program(choices)
            for k in range(len(walk) + 1):
                crew["a"] = (choices, k)
                self.assertLessEqual(Span(crew.wait("a")), crew.bound)
                greatest = max(greatest, crew.wait())
            if walk.waits is not None:
                low, high = (0, walk.waits[1] - 1) if walk.waits[0] == "either" else walk.waits[1:]
                todo += [choices + [choice] for choice in range(low, high + 1)]
        self.assertEqual(Span(greatest), crew.bound)


if __name__ == "__main__":
    unittest.main()
