"""Point 11 and Trail of stoppoints/trails.py."""

import unittest

from stoppoints.codes import Call, Either, Leave, Look, Loop, Return, Row, Stand, Work
from stoppoints.errors import InvalidChoice, InvalidTrail, LimitExceeded
from stoppoints.programs import Program
from stoppoints.texts import parse_code
from stoppoints.trails import Trail

from cases import STRANGE, TOP, Case, Same
from paths import Bad, path_of, random_entries
from samples import generator, random_program, random_rings


def program_of(first="f", **texts):
    return Program(first, {name: parse_code(text) for name, text in texts.items()})


def one(text, tree, **others):
    """The trail of one entry, of the first function."""
    return Trail(program_of(f=text, **others), (("f", tree),))


def told(trail):
    """All that is told of a trail."""
    return (trail.done, trail.many, trail.first, trail.last, trail.greatest, trail.time)


class TrailTest(Case):
    def test_attributes(self):
        program = program_of(f="[2; ?a:3; 4; !; 7; 1; ?b; 5]")
        entries = (("f", ("row", ("go",) * 8)),)
        trail = Trail(program, entries)
        self.assertEqual(trail.entries, entries)
        self.assertEqual(told(trail), (True, 3, 5, 5, 8, 22))
        self.assertEqual(len(trail), 1)
        self.assertIs(trail.done, True)
        for value in told(trail)[1:]:
            self.assertIs(type(value), int)
        self.assertEqual(Trail(entries=entries, program=program).time, 22)

    def test_steps(self):
        self.assertEqual(told(one("5", "go")), (True, 0, 5, 5, 5, 5))
        self.assertEqual(told(one("?a", "go")), (True, 1, 0, 0, 0, 0))
        self.assertEqual(told(one("?a:6", "go")), (True, 1, 6, 0, 6, 6))
        self.assertEqual(told(one("!", "go")), (True, 1, 0, 0, 0, 0))
        self.assertEqual(told(one("return", "go")), (True, 0, 0, 0, 0, 0))
        self.assertEqual(told(one("1..* leave", ("loop", ((1, "go"),)))), (True, 0, 0, 0, 0, 0))

    def test_here_at_every_kind_of_code(self):
        for text in ["5", "?a:6", "!", "[]", "[1; 2]", "{1 | 2}", "0..3 1", "2..2 1", "0..0 1", "call f", "return"]:
            with self.subTest(text):
                self.assertEqual(told(one(text, "here")), (False, 0, 0, 0, 0, 0))
                self.assertEqual(told(one(f"[7; {text}]", ("row", ("go", "here")))), (False, 0, 7, 7, 7, 7))
        self.assertEqual(told(one("0..1 leave", ("loop", ((1, "here"),)))), (False, 0, 0, 0, 0, 0))

    def test_rows(self):
        self.assertEqual(told(one("[]", ("row", ()))), (True, 0, 0, 0, 0, 0))
        self.assertEqual(told(one("[1; 2; ?a; 4]", ("row", ("go", "here")))), (False, 0, 1, 1, 1, 1))
        self.assertEqual(told(one("[1; return; 4]", ("row", ("go", "go")))), (True, 0, 1, 1, 1, 1))
        self.assertEqual(told(one("[1; []; [?a; 2]]", ("row", ("go", ("row", ()), ("row", ("go", "go")))))),
                         (True, 1, 1, 2, 2, 3))

    def test_wrong_rows(self):
        for tree in [("row", ()), ("row", ("go",)), ("row", ("go",) * 3), ("row", ("here", "go")),
                     ("row", ("here", "here")), ("row", ["go", "go"]), ["row", ("go", "go")], ("row", "go", "go"),
                     ("row",), ("row", "gogo"), ("row", ("go", None)), ("Row", ("go", "go")), "go", ("row", ("go", "no"))]:
            self.refuses(InvalidTrail, {"index": 0}, one, "[1; 2]", tree)
        for tree in [("row", ("go",)), ("row", ("here",)), ("row", []), ("row", None), "go", ()]:
            self.refuses(InvalidTrail, {"index": 0}, one, "[]", tree)
        self.refuses(InvalidTrail, {"index": 0}, one, "[return; 2]", ("row", ("go", "go")))
        self.refuses(InvalidTrail, {"index": 0}, one, "[return; 2]", ("row", ("go", "here")))

    def test_choices(self):
        self.assertEqual(told(one("{1 | [?a; 2] | 3}", ("either", 1, ("row", ("go", "go"))))), (True, 1, 0, 2, 2, 2))
        self.assertEqual(told(one("{1 | 2 | 3}", ("either", 2, "go"))), (True, 0, 3, 3, 3, 3))
        self.assertEqual(told(one("{1 | return}", ("either", 0, "here"))), (False, 0, 0, 0, 0, 0))
        for index in [-1, 3, True, False, None, "0", (0,), 10 ** 40]:
            self.refuses(InvalidTrail, {"index": 0}, one, "{1 | 2 | 3}", ("either", index, "go"))
        for tree in ["go", ("either", 0), ("either", 0, "go", "go"), ["either", 0, "go"], ("either", 0, "no"),
                     ("row", ("go",)), ("either", "go", 0)]:
            self.refuses(InvalidTrail, {"index": 0}, one, "{1 | 2 | 3}", tree)

    def test_turns_at_once_and_one_by_one(self):
        program = program_of(f="2..6 {3 | [1; ?a; 2]}")
        plain = ("either", 0, "go")
        look = ("either", 1, ("row", ("go", "go", "go")))
        for turns, wanted in [
                (((2, plain),), (True, 0, 6, 6, 6, 6)),
                (((1, plain), (1, plain)), (True, 0, 6, 6, 6, 6)),
                (((4, plain), (2, look)), (True, 2, 13, 2, 13, 18)),
                (((1, plain), (3, plain), (1, look), (1, look)), (True, 2, 13, 2, 13, 18)),
                (((2, look), (4, plain)), (True, 2, 1, 14, 14, 18)),
                (((1, look), (3, plain), (2, look)), (True, 3, 1, 2, 12, 18)),
                (((2, look),), (True, 2, 1, 2, 3, 6)),
                (((1, look), (1, look)), (True, 2, 1, 2, 3, 6)),
                (((1, look), (1, "here")), (False, 1, 1, 2, 2, 3)),
                (((1, "here"),), (False, 0, 0, 0, 0, 0)),
                (((5, plain), (1, ("either", 1, ("row", ("go", "go", "here"))))), (False, 1, 16, 0, 16, 16))]:
            with self.subTest(turns):
                self.assertEqual(told(Trail(program, (("f", ("loop", turns)),))), wanted)

    def test_wrong_numbers_of_turns(self):
        for times in [0, -1, True, None, "2", (2,), [2], 4, TOP]:
            self.refuses(InvalidTrail, {"index": 0}, one, "2..3 1", ("loop", ((times, "go"),)))
        for turns in [(), ((1, "go"),), ((2, "go"), (2, "go")), ((3, "go"), (1, "go")), ((3, "go"), (1, "here")),
                      ((3, "go"), (0, "go")), ((0, "here"),), ((True, "go"), (1, "go"))]:
            self.refuses(InvalidTrail, {"index": 0}, one, "2..3 1", ("loop", turns))
        for turns in [((2, "go"),), ((3, "go"),), ((1, "go"), (2, "go")), ((2, "go"), (1, "here")), ((1, "here"),)]:
            self.assertEqual(one("2..3 1", ("loop", turns)).time, sum(times for times, tree in turns if tree == "go"))
        self.assertEqual(told(one("0..0 9", ("loop", ()))), (True, 0, 0, 0, 0, 0))
        self.assertEqual(told(one("0..3 9", ("loop", ()))), (True, 0, 0, 0, 0, 0))
        self.refuses(InvalidTrail, {"index": 0}, one, "0..0 9", ("loop", ((1, "go"),)))
        self.refuses(InvalidTrail, {"index": 0}, one, "0..0 9", ("loop", ((1, "here"),)))

    def test_turns_that_do_not_go_on(self):
        text = "3..5 {[1; ?a; 2] | leave | [4; return]}"
        look = ("either", 0, ("row", ("go", "go", "go")))
        leave = ("either", 1, "go")
        back = ("either", 2, ("row", ("go", "go")))
        end = ("either", 0, ("row", ("go", "here")))
        self.assertEqual(told(one(text, ("loop", ((1, look), (1, leave))))), (True, 1, 1, 2, 2, 3))
        self.assertEqual(told(one(text, ("loop", ((1, leave),)))), (True, 0, 0, 0, 0, 0))
        self.assertEqual(told(one(text, ("loop", ((4, look), (1, back))))), (True, 4, 1, 6, 6, 16))
        self.assertEqual(told(one(text, ("loop", ((2, look), (1, end))))), (False, 2, 1, 3, 3, 7))
        for turns in [((2, leave),), ((2, back),), ((2, end),), ((1, look), (2, leave)), ((1, leave), (1, look)),
                      ((1, back), (1, look)), ((1, end), (1, leave)), ((5, look), (1, leave)), ((5, look), (1, end)),
                      ((3, look), (1, leave), (1, "here"))]:
            self.refuses(InvalidTrail, {"index": 0}, one, text, ("loop", turns))

    def test_what_stands_behind_a_loop(self):
        text = "[3..5 {1 | leave | return}; 8]"
        self.assertEqual(told(one(text, ("row", (("loop", ((1, ("either", 1, "go")),)), "go")))), (True, 0, 8, 8, 8, 8))
        self.assertEqual(told(one(text, ("row", (("loop", ((1, ("either", 2, "go")),)),)))), (True, 0, 0, 0, 0, 0))
        self.assertEqual(told(one(text, ("row", (("loop", ((3, ("either", 0, "go")),)), "here")))),
                         (False, 0, 3, 3, 3, 3))
        for tree in [("row", (("loop", ((1, ("either", 1, "go")),)),)),
                     ("row", (("loop", ((1, ("either", 2, "go")),)), "go")),
                     ("row", (("loop", ((1, ("either", 0, "here")),)), "go")),
                     ("row", (("loop", ((3, ("either", 0, "go")),)),))]:
            self.refuses(InvalidTrail, {"index": 0}, one, text, tree)

    def test_leave_ends_the_innermost_loop(self):
        text = "2..2 [3; 5..5 [4; leave]; 2]"
        turn = ("row", ("go", ("loop", ((1, ("row", ("go", "go"))),)), "go"))
        self.assertEqual(told(one(text, ("loop", ((2, turn),)))), (True, 0, 18, 18, 18, 18))

    def test_wrong_loops(self):
        for tree in ["go", ("loop",), ("loop", [(1, "go")]), ("loop", ([1, "go"],)), ("loop", ((1, "go", "go"),)),
                     ("loop", ((1,),)), ("loop", (1, "go")), ("loop", ("go",)), ("loop", ((1, ["go"]),)),
                     ("loop", None), ("loop", ((1, "go"),), ()), ("row", ("go",)), ("loop", "go")]:
            self.refuses(InvalidTrail, {"index": 0}, one, "0..9 1", tree)

    def test_jumps(self):
        text = f"[0..* 3; {TOP}..{TOP} [1; ?a; {TOP}]]"
        tree = ("row", (("loop", ((TOP ** 2, "go"),)), ("loop", ((TOP, ("row", ("go",) * 3)),))))
        self.assertEqual(told(one(text, tree)),
                         (True, TOP, 3 * TOP ** 2 + 1, TOP, 3 * TOP ** 2 + 1, 4 * TOP ** 2 + TOP))
        chain = {name: f"{TOP}..{TOP} call {called}" for name, called in zip("fghij", "ghijk")}
        entries = tuple([("k", "go")] + [(name, ("loop", ((TOP, ("call", k)),))) for k, name in enumerate("jihgf")])
        self.assertEqual(Trail(program_of(k="2", **chain), entries).time, 2 * TOP ** 5)
        entries = tuple([("k", "go")] + [(name, ("loop", ((TOP, ("call", k)),))) for k, name in enumerate("jihgf")])
        trail = Trail(program_of(k="?a:2", **chain), entries)
        self.assertEqual(told(trail), (True, TOP ** 5, 2, 0, 2, 2 * TOP ** 5))

    def test_entries_double(self):
        # Each entry calls the one ahead of it twice: a walk of great length in few entries.
        program = program_of(f="{1 | [call f; call f]}")
        entries = [("f", ("either", 0, "go"))]
        for k in range(100):
            entries.append(("f", ("either", 1, ("row", (("call", k), ("call", k))))))
        trail = Trail(program, tuple(entries))
        self.assertEqual((trail.time, len(trail)), (2 ** 100, 101))


class CallsTest(Case):
    def test_calls(self):
        program = program_of(f="[1; call g; 2; call g]", g="{3 | [?a; return; 7] | call f}")
        three = ("g", ("either", 0, "go"))
        look = ("g", ("either", 1, ("row", ("go", "go"))))
        stop = ("g", ("either", 1, ("row", ("here",))))
        cases = [
            ((three, ("f", ("row", ("go", ("call", 0), "go", ("call", 0))))), (True, 0, 9, 9, 9, 9)),
            ((three, look, ("f", ("row", ("go", ("call", 1), "go", ("call", 0))))), (True, 1, 1, 5, 5, 6)),
            ((look, ("f", ("row", ("go", ("call", 0), "go", ("call", 0))))), (True, 2, 1, 0, 2, 3)),
            ((stop, ("f", ("row", ("go", ("call", 0))))), (False, 0, 1, 1, 1, 1)),
            ((three, stop, ("f", ("row", ("go", ("call", 0), "go", ("call", 1))))), (False, 0, 6, 6, 6, 6)),
            ((three, ("f", ("row", ("go", ("call", 0), "go", ("call", 0)))), ("g", ("either", 2, ("call", 1))),
              ("f", ("row", ("go", ("call", 2), "go", ("call", 0))))), (True, 0, 15, 15, 15, 15)),
        ]
        for entries, wanted in cases:
            with self.subTest(entries):
                self.assertEqual(told(Trail(program, entries)), wanted)
                self.assertEqual(len(Trail(program, entries)), len(entries))
                self.assertEqual(Trail(program, entries).entries, entries)

    def test_entries_that_are_not_used(self):
        program = program_of(f="[1; call g]", g="5")
        entries = (("g", "go"), ("g", "here"), ("f", "here"), ("g", "go"), ("f", ("row", ("go", ("call", 3)))))
        self.assertEqual(told(Trail(program, entries)), (True, 0, 6, 6, 6, 6))

    def test_a_call_that_ends_ends_the_walk(self):
        program = program_of(f="[1; call g; 2]", g="5")
        for tree in [("row", ("go", ("call", 0), "go")), ("row", ("go", ("call", 0), "here"))]:
            self.refuses(InvalidTrail, {"index": 1}, Trail, program, (("g", "here"), ("f", tree)))
        tree = ("row", ("go", ("call", 0)))
        self.refuses(InvalidTrail, {"index": 1}, Trail, program, (("g", "go"), ("f", tree)))
        self.assertEqual(Trail(program, (("g", "here"), ("f", tree))).time, 1)

    def test_a_call_whose_entry_returns_goes_on(self):
        program = program_of(f="[2..2 call g; 1]", g="[5; return]")
        entries = (("g", ("row", ("go", "go"))), ("f", ("row", (("loop", ((2, ("call", 0)),)), "go"))))
        self.assertEqual(told(Trail(program, entries)), (True, 0, 11, 11, 11, 11))

    def test_wrong_calls(self):
        program = program_of(f="[1; call g]", g="{[] | call f | call g}")
        good = ("g", ("either", 0, ("row", ())))
        for index in [1, 2, -1, -2, True, False, None, "0", (0,), 10 ** 40]:
            entries = (good, ("f", ("row", ("go", ("call", index)))))
            self.refuses(InvalidTrail, {"index": 1}, Trail, program, entries)
        # A later entry, itself, and an entry of another function.
        self.refuses(InvalidTrail, {"index": 0}, Trail, program,
                     (("f", ("row", ("go", ("call", 1)))), good, ("f", ("row", ("go", ("call", 1))))))
        self.refuses(InvalidTrail, {"index": 0}, Trail, program, (("g", ("either", 2, ("call", 0))), ("f", "here")))
        self.refuses(InvalidTrail, {"index": 1}, Trail, program,
                     (good, ("g", ("either", 1, ("call", 0))), ("f", "here")))
        for tree in ["go", ("call",), ("call", 0, 0), ["call", 0], ("Call", 0), (0, "call")]:
            self.refuses(InvalidTrail, {"index": 1}, Trail, program, (good, ("f", ("row", ("go", tree)))))

    def test_the_last_entry_is_of_the_first_function(self):
        program = program_of(f="1", g="2")
        self.refuses(InvalidTrail, {"index": 0}, Trail, program, (("g", "go"),))
        self.refuses(InvalidTrail, {"index": 2}, Trail, program, (("f", "go"), ("g", "go"), ("g", "go")))
        self.assertEqual(Trail(program.with_first("g"), (("f", "go"), ("g", "go"))).time, 2)

    def test_the_first_wrong_entry(self):
        program = program_of(f="1", g="2")
        self.refuses(InvalidTrail, {"index": 1}, Trail, program, (("f", "go"), ("h", "go"), ("f", "no"), ("g", "go")))
        self.refuses(InvalidTrail, {"index": 0}, Trail, program, (("f", "no"), ("g", "go")))


class AnyValueTest(Case):
    def test_no_tuple_of_entries(self):
        program = program_of(f="1")
        deep = "here"
        for _ in range(28):
            deep = ("row", (deep,))
        for value in STRANGE + [5, Same(), [("f", "go")], {("f", "go"): 1}, "here", Work(1), program, [deep]]:
            if not isinstance(value, tuple) or value == ():
                self.refuses(InvalidTrail, {"index": None}, Trail, program, value)

    def test_no_entries(self):
        program = program_of(f="1")
        for value in STRANGE + [5, ["f", "go"], ("f",), ("f", "go", 1), ("g", "go"), (None, "go"), ("", "go"),
                                (["f"], "go"), (("f",), "go"), "fg", {"f": "go"}, Work(1), ("go", "f"), Same(), (Same(), "go")]:
            self.refuses(InvalidTrail, {"index": 0}, Trail, program, (value,))
            self.refuses(InvalidTrail, {"index": 1}, Trail, program, (("f", "go"), value, ("f", "go")))

    def test_no_trees(self):
        deep = []
        for _ in range(28):
            deep = [deep]
        wrong = STRANGE + [5, "Go", "go ", "heres", ("go",), ("here",), ["go"], b"go", Work(1), deep, (deep,), Same()]
        for text in ["5", "?a", "!", "[1]", "{1 | 2}", "0..* 1", "call f", "return", "[]"]:
            for value in wrong:
                self.refuses(InvalidTrail, {"index": 0}, one, text, value)
        for value in wrong:
            self.refuses(InvalidTrail, {"index": 0}, one, "[1]", ("row", (value,)))
            if value not in [("go",), ("here",)]:
                self.refuses(InvalidTrail, {"index": 0}, one, "[1]", ("row", value))
            self.refuses(InvalidTrail, {"index": 0}, one, "{1 | 2}", ("either", 0, value))
            self.refuses(InvalidTrail, {"index": 0}, one, "0..* 1", ("loop", (value,)))
            self.refuses(InvalidTrail, {"index": 0}, one, "0..* 1", ("loop", ((1, value),)))

    def test_here_is_no_way_for_words_of_other_codes(self):
        for text, tree in [("5", ("row", ())), ("[]", ("loop", ())), ("0..1 1", ("row", ())), ("call f", ("either", 0, "go")),
                           ("{1 | 2}", ("call", 0)), ("return", ("call", 0))]:
            self.refuses(InvalidTrail, {"index": 0}, one, text, tree)

    def test_deep_codes(self):
        tree, code = "go", Work(3)
        for k in range(24):
            if k % 2:
                tree, code = ("loop", ((2, tree),)), Loop(1, 2, code)
            else:
                tree, code = ("row", (tree,)), Row(code)
        self.assertEqual(code.depth(), 25)
        self.assertEqual(Trail(Program("f", {"f": code}), (("f", tree),)).time, 3 * 2 ** 12)


class PathsTest(Case):
    def test_against_all_steps(self):
        rng = generator(51)
        compared = {"right": 0, "wrong": 0, "done": 0, "walks": 0}
        for _ in range(3000):
            program = random_rings(rng) if rng.random() < 0.5 else Program(*random_program(rng))
            entries = random_entries(rng, program, rng.choice([0, 0, 0.02, 0.1]))
            try:
                path = path_of(program, entries)
            except Bad as error:
                compared["wrong"] += 1
                self.refuses(InvalidTrail, {"index": error.args[0]}, Trail, program, entries)
                continue
            trail = Trail(program, entries)
            self.assertEqual({name: getattr(trail, name) for name in path.told()}, path.told())
            compared["right"] += 1
            compared["done"] += trail.done
            compared["walks"] += self.compare(program, trail, path)
        self.assertGreater(min(compared.values()), 300)

    def compare(self, program, trail, path):
        """Compares with the walk of the same choices, if it does not go too far behind the end of the trail."""
        try:
            walk = program(path.choices)
        except LimitExceeded:
            return False
        except InvalidChoice:
            self.fail("a trail takes choices that can be taken")
        steps = [step for step, _, _ in path.steps]
        self.assertEqual(walk.steps()[:len(steps)], steps)
        if trail.done:
            self.assertIs(walk.done, True)
            self.assertEqual((walk.time, walk.greatest, walk.stretches()[0], walk.stretches()[-1]),
                             (trail.time, trail.greatest, trail.first, trail.last))
        return True


class CodesTest(Case):
    def test_all_kinds_in_one(self):
        code = Row(Work(1), Look("a", 2), Stand(), Row(), Either(Row(), Return()), Loop(1, None, Either(Leave(), Work(3))),
                   Call("g"))
        program = Program("f", {"f": code, "g": Work(4)})
        tree = ("row", ("go", "go", "go", ("row", ()), ("either", 0, ("row", ())),
                        ("loop", ((5, ("either", 1, "go")), (1, ("either", 0, "go")))), ("call", 0)))
        self.assertEqual(told(Trail(program, (("g", "go"), ("f", tree)))), (True, 2, 3, 19, 19, 22))


if __name__ == "__main__":
    unittest.main()
