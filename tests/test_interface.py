"""The names of the interface: each is defined in its file, with the arguments told there."""

import ast
import inspect
import os
import unittest

from cameposts import bars, counted, deeds, errors, goers, held, needed, signs, towns, ways, wishes
from tests.checks import ARGUMENTS, BY_NAME_ALONE

FUNCTIONS = {
    towns: ("town_wrong", "ends_at", "standing_wrong"),
    deeds: ("row_wrong", "led_by", "trail_of", "row_back"),
    held: ("holding_of", "heaps_of", "goers_in", "basins_of", "pendants_of", "can_walk", "can_point"),
    goers: ("run_of", "circuit_of", "round_of", "standing_behind", "first_time"),
    signs: ("sign_of", "unlike_signs", "evens_between"),
    bars: ("bar_between", "bar_shows"),
    ways: ("way_between", "least_abouts", "way_judged"),
    wishes: ("wishes_had", "had_judged"),
    needed: ("least_goers",),
    counted: ("how_many", "standing_at", "number_of"),
}
# What these are where they are left out; the others of those behind a star must be handed in.
LEFT_OUT = {"goers": None, "abouts": True}
CLASSES = {
    errors: ("PostError", "NoChoice", "NoEnd", "NoGoers", "NoName", "NoNumber", "NoPair", "NoPlace", "NoRow",
             "NoStanding", "NoTown", "NoWishes"),
}


def defined_in(module, kind):
    with open(module.__file__, encoding="ascii") as source:
        return [part.name for part in ast.parse(source.read()).body if isinstance(part, kind)]


class Interface(unittest.TestCase):
    def test_functions(self):
        for module, names in FUNCTIONS.items():
            for name in names:
                self.assertEqual(defined_in(module, ast.FunctionDef).count(name), 1)
                parameters = inspect.signature(getattr(module, name)).parameters
                behind = BY_NAME_ALONE.get(name, ())
                self.assertEqual(tuple(parameters), ARGUMENTS[name] + behind)
                for each in ARGUMENTS[name]:
                    self.assertIs(parameters[each].kind, inspect.Parameter.POSITIONAL_OR_KEYWORD)
                    self.assertIs(parameters[each].default, inspect.Parameter.empty)
                for each in behind:
                    self.assertIs(parameters[each].kind, inspect.Parameter.KEYWORD_ONLY)
                    self.assertIs(parameters[each].default, LEFT_OUT.get(each, inspect.Parameter.empty))

    def test_classes(self):
        for module, names in CLASSES.items():
            for name in names:
                self.assertEqual(defined_in(module, ast.ClassDef).count(name), 1)

    def test_a_package_of_plain_files(self):
        folder = os.path.dirname(errors.__file__)
        names = [name for name in os.listdir(folder) if name != "__pycache__"]
        self.assertIn("__init__.py", names)
        for name in names:
            self.assertTrue(name.endswith(".py"), name)
            with open(os.path.join(folder, name), encoding="ascii", newline="") as source:
                text = source.read()
            self.assertFalse("\t" in text or "\r" in text, name)
            self.assertLess(text.count("\n"), 400, name)
            self.assertLessEqual(max(len(line) for line in text.split("\n")), 120, name)
            for part in ast.walk(ast.parse(text)):
                if isinstance(part, ast.FunctionDef):
                    self.assertLessEqual(part.end_lineno - part.lineno + 1, 40, part.name)


if __name__ == "__main__":
    unittest.main()
