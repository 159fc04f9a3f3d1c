"""The interface of the document: where each name is defined, its parameters, and the methods of each class."""

import importlib
import inspect
import unittest

from stoppoints.codes import Code

from cases import Case

# A parameter behind * is written with "*" ahead of it, "=" stands for a default value, and "*x" for all that follow.
FUNCTIONS = {
    "spans": {"greatest": "spans"},
    "codes": {"pieces_of": "code"},
    "texts": {"show_code": "code", "parse_code": "text", "show_program": "program", "parse_program": "lines"},
    "programs": {"calls_of": "code", "reached": "program", "rings": "program"},
    "walks": {"roads": "program * most turns"},
    "numbers": {"numbers_by": "code told"},
    "solving": {"numbers_of": "program code", "called_numbers": "program", "span_of": "program", "endless_loops": "program"},
    "longest": {"longest_trail": "program", "over": "program time"},
    "places": {"places_of": "program *kinds", "placed": "program places * cost=0"},
    "rules": {"show_rule": "rule", "parse_rule": "text", "ruled": "program rule"},
    "parting": {"parting_program": "one other"},
    "placings": {"most_looks": "program"},
    "floors": {"floor_by": "placings gaps", "cost_by": "placings costs shares", "check_least": "placings sets gaps"},
    "changes": {"split": "program name index count", "unrolled": "program name index count", "inlined": "program name"},
    "claims": {"check_claims": "program claims", "shows_span": "program claims entries"},
    "notes": {"notes": "desk", "read_notes": "lines"},
}

OF_CODES = {"parts": "", "depth": "", "__add__": None, "__or__": None, "__mul__": None, "__contains__": None,
            "__len__": None, "__eq__": None}

# The methods of classes; those for signs are None, since they are called by their signs.
CLASSES = {
    "spans": {"Span": {"": "time", "endless": "static", "is_endless": "", "__add__": None, "__radd__": None, "__mul__": None,
                       "__rmul__": None, "__lt__": None, "__le__": None, "__gt__": None, "__ge__": None, "__eq__": None}},
    "codes": {
        "Work": {"": "time", **OF_CODES}, "Look": {"": "name cost=0", **OF_CODES}, "Stand": {"": "", **OF_CODES},
        "Row": {"": "*codes", **OF_CODES}, "Either": {"": "*codes", **OF_CODES}, "Loop": {"": "low high code", **OF_CODES},
        "Call": {"": "name", **OF_CODES}, "Leave": {"": "", **OF_CODES}, "Return": {"": "", **OF_CODES},
    },
    "programs": {"Program": {"": "first functions", "first": "property", "__getitem__": None, "names": "", "__contains__": None,
                             "__len__": None, "__eq__": None, "with_function": "name code", "with_first": "name",
                             "__call__": "choices"}},
    "walks": {"Walk": {"": "program choices", "done": "property", "waits": "property", "greatest": "property", "__len__": None,
                       "steps": "", "stretches": "", "looks": "", "rest": "k"}},
    "numbers": {"Numbers": {
        "": "* through tail head inner", "through": "way", "tail": "way", "head": "property", "inner": "property",
        "span": "property", "__add__": None, "__or__": None, "turned": "low high", "called": "", "__le__": None, "__eq__": None,
        "of_nothing": "static", "of_work": "static time", "of_look": "static cost", "of_stand": "static", "of_leave": "static",
        "of_return": "static"}},
    "trails": {"Trail": {"": "program entries", "entries": "property", "done": "property", "many": "property",
                         "first": "property", "last": "property", "greatest": "property", "__len__": None}},
    "rules": {"Rule": {
        "": "entry finish back", "entry": "property", "finish": "property", "back": "property", "nowhere": "static",
        "at_entries": "static * only_rings=False", "at_finishes": "static * only_rings=False", "at_backs": "static above=0",
        "__or__": None, "__and__": None, "__le__": None, "__eq__": None, "places": "program"}},
    "placings": {"Placings": {"": "program places * limit=None", "places": "", "__call__": "places", "__contains__": None,
                              "least": "", "gaps": "", "fewest": "", "cheapest": "costs", "calmest": ""}},
    "crews": {"Crew": {"": "program", "__setitem__": None, "put": "name choices k", "__getitem__": None, "remove": "name",
                       "__contains__": None, "__len__": None, "names": "", "wait": "*names", "latest": ""}},
    "desks": {
        "Desk": {"": "", "__getitem__": None, "__setitem__": None, "put": "name program", "__contains__": None, "__len__": None,
                 "names": "", "remove": "name", "limit_of": "name", "set_limit": "name limit", "span_for": "name",
                 "sheet": "name", "rule": "setter", "set_rule": "rule", "undo": "", "redo": "", "undoable": "property",
                 "trial": "", "trying": "call"},
        "Sheet": {"program": "setter", "limit": "setter", "set_program": "program", "set_limit": "limit"},
    },
    "console": {"Console": {"": "desk", "__call__": "line", "answers": "lines"}},
}


def told(call, skip=0):
    """The parameters of a function, in the words of the tables above."""
    words, star = [], False
    for parameter in list(inspect.signature(call).parameters.values())[skip:]:
        if parameter.kind is parameter.VAR_POSITIONAL:
            words.append(f"*{parameter.name}")
            continue
        if parameter.kind is parameter.KEYWORD_ONLY and not star:
            words.append("*")
            star = True
        default = "" if parameter.default is parameter.empty else f"={parameter.default}"
        words.append(parameter.name + default)
    return " ".join(words)


class InterfaceTest(Case):
    def module(self, name):
        return importlib.import_module(f"stoppoints.{name}")

    def test_functions(self):
        for name, functions in FUNCTIONS.items():
            for function, parameters in functions.items():
                with self.subTest(f"{name}.{function}"):
                    call = vars(self.module(name))[function]
                    self.assertTrue(inspect.isfunction(call))
                    self.assertEqual(call.__module__, f"stoppoints.{name}")
                    self.assertEqual(told(call), parameters)

    def test_classes(self):
        for name, classes in CLASSES.items():
            for kind, methods in classes.items():
                made = vars(self.module(name))[kind]
                self.assertTrue(inspect.isclass(made))
                self.assertEqual(made.__module__, f"stoppoints.{name}")
                for method, parameters in methods.items():
                    with self.subTest(f"{name}.{kind}.{method}"):
                        self.method(made, method, parameters)

    def method(self, made, name, parameters):
        if name == "":
            self.assertEqual(told(made), parameters)
            return
        # In the class itself, not only in a base class.
        found = vars(made)[name]
        if parameters is None:
            self.assertTrue(inspect.isfunction(found))
        elif parameters in ("property", "setter"):
            self.assertIsInstance(found, property)
            self.assertEqual(found.fset is not None, parameters == "setter")
        elif parameters.partition(" ")[0] == "static":
            self.assertIsInstance(found, staticmethod)
            self.assertEqual(told(found.__func__), parameters.partition(" ")[2])
        else:
            self.assertEqual(told(found, 1), parameters)

    def test_codes_are_of_the_class_code(self):
        kinds = [vars(self.module("codes"))[kind] for kind in CLASSES["codes"]]
        for kind in kinds:
            self.assertTrue(issubclass(kind, Code))
            self.assertFalse(any(issubclass(kind, other) for other in kinds if other is not kind))

    def test_generators(self):
        for call in [self.module("codes").pieces_of, self.module("walks").roads, self.module("console").Console.answers]:
            self.assertTrue(inspect.isgeneratorfunction(call))


if __name__ == "__main__":
    unittest.main()
