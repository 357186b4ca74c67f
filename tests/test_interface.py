import importlib
import inspect
import unittest

from farfloor import errors, moves
from farfloor.floors import Floor
from farfloor.steps import Steps

FUNCTIONS = {
    "wholes": ["shared(one, other)", "weights(one, other)", "turned(bits, by, width)",
               "meeting(one, first, other, second)"],
    "steps": ["Steps(wide, slip, high)", "plainest(rows)", "made(steps)", "together(one, other)", "common(one, other)"],
    "moves": ["move(word, p=0, q=0)", "behind(one, other)", "back(one)"],
    "floors": ["Floor(rows, slip=0)", "moved(floor, way)", "mixed(one, other, choice)", "recoloured(floor, table)",
               "painted(steps, colour)"],
    "least": ["keeping(floor)", "least(floor)", "fault(floor, p, q)"],
    "kin": ["keepers(floor)", "carrier(one, other)", "unlike(one, other, way)", "same(one, other)"],
    "finds": ["places(floor, rows)", "window(floor, x, y, wide, high)"],
    "texts": ["read(text)", "written(floor)"],
}
METHODS = [
    (Steps(2, 0, 3), ["spot(x, y)", "holds(x, y)", "many()", "cells()", "told()"]),
    (moves.move("left"), ["to(x, y)", "part(x, y)", "word()", "told()"]),
    (Floor(["01"]), ["at(x, y)", "told()"]),
]


def shown(name, value):
    return name + str(inspect.signature(value))


class InterfaceTest(unittest.TestCase):
    def test_functions(self):
        for file, forms in FUNCTIONS.items():
            module = importlib.import_module("farfloor." + file)
            for form in forms:
                name = form.partition("(")[0]
                self.assertEqual(shown(name, getattr(module, name)), form)

    def test_methods(self):
        for thing, forms in METHODS:
            for form in forms:
                name = form.partition("(")[0]
                self.assertEqual(shown(name, getattr(thing, name)), form)

    def test_values(self):
        self.assertIsInstance(Floor(["01"]).steps, Steps)
        self.assertEqual(len(moves.WORDS), 8)
        self.assertEqual(errors.BadText(3).row, 3)

    def test_errors_stand_each_alone(self):
        self.assertEqual(errors.FloorError.__bases__, (ValueError,))
        for name in ("Thin", "NoWord", "NoColour", "BadText"):
            self.assertEqual(getattr(errors, name).__bases__, (errors.FloorError,))

    def test_keyword_use(self):
        floor = Floor(rows=["01", "23"], slip=1)
        self.assertEqual(moves.move(word="left", q=2).told(), ("left", 0, 2))
        self.assertEqual(floor.at(x=0, y=2), "1")
        window = importlib.import_module("farfloor.finds").window
        self.assertEqual(window(floor=floor, x=0, y=0, wide=2, high=2), ["01", "23"])


if __name__ == "__main__":
    unittest.main()
