"""[10.1], [10.6]: instructions and code, and what they name."""

import unittest

from hornmill.code import is_code, is_instruction, registers, slots_of
from hornmill.errors import NoCode
from tests.support import PERCENT, Unlike, odd_values

X, Y = ("x", 1), ("y", 2)
GREAT = 10 ** 300 - 1
RIGHT = [
    ("take_new", X, 1), ("take_new", Y, 10000), ("take_old", X, 2), ("take_const", "a", 3), ("take_const", GREAT, 1), ("take_const", -GREAT, 1),
    ("take_struct", "f", 1, 1), ("take_struct", "", 8, 9), ("arg_new", X), ("arg_new", Y), ("arg_old", X), ("arg_local", Y), ("arg_const", "[]"),
    ("arg_const", -5), ("arg_skip", 1), ("arg_skip", 8), ("arg_skip", 9), ("give_new", X, 1), ("give_new", Y, 1), ("give_old", Y, 4),
    ("give_unsafe", Y, 1), ("give_const", "a" * 40, 1), ("give_struct", ".", 2, 1), ("keep_entry", X), ("keep_entry", Y), ("keep_now", Y),
    ("cut_to", X), ("soft_cut", Y), ("builtin", ("=", 2)), ("builtin", ("p", 0)), ("builtin", (-4, 3)), ("frame", 0), ("frame", 10000), ("unframe",),
    ("call", ("p", 8), 0), ("call", (0, 9), 3), ("call", (-12, 10000), 0), ("jump", ("", 0)), ("jump", (10 ** 400, 0)), ("return",)]
NO_NUMBERS = [0, -1, True, False, "1", None, (1,), [1], 1.0, {}]
NO_PLACES = NO_NUMBERS + ["x", (), ("x",), ("x", 0), ("y", -1), ("x", True), ("z", 1), ("x", 1, 1), ["x", 1], ("x", "1"), (["x"], 1), ({}, 1), ("x", [1]),
                          ("X", 1), ("", 1), ("xy", 1), (b"x", 1), ("h", 0), (1, "x"), (None, 1), (True, 1)]
NO_CONSTANTS = [True, False, None, 1.0, (0,), ("f", "a"), ["a"], "a" * 41, PERCENT, "\n", GREAT + 1, -GREAT - 1, {}, b"a"]
NO_NAMES = [0, True, None, "a" * 41, PERCENT, "\n", ["f"], ("f",), b"f"]
NO_KEYS = ["p", 0, None, (), ("p",), ["p", 1], ("p", 9), ("p", -1), (0, -1), ("p", True), (True, 1), (0, True), ("p", "1"), ("p", None), ("p", [1]), (["p"], 1),
           ({}, 1), (None, 1), (1.0, 1), ("a" * 41, 1), (PERCENT, 1), ("p", 1, 1), ("p", 1.0), (("p",), 1), (b"p", 1)]
NO_MANY = [-1, True, False, None, "0", 0.0, (0,), [0]]
NO_ARITIES = [0, 9, -1, True, None, "1", [1], 1.0]


class Instructions(unittest.TestCase):
    def wrong(self, *things):
        for thing in things:
            with self.subTest(str(thing)[:60]):
                self.assertIs(is_instruction(thing), False)

    def test_right_ones(self):
        for thing in RIGHT:
            with self.subTest(str(thing)[:60]):
                self.assertIs(is_instruction(thing), True)

    def test_each_word_length_and_list(self):
        for thing in RIGHT:
            self.wrong(list(thing), thing[1:], thing + (1,), thing + (X,), thing[:-1], ("no" + thing[0],) + thing[1:], (thing[0].upper(),) + thing[1:],
                       (thing[0] + " ",) + thing[1:], (None,) + thing[1:], ([thing[0]],) + thing[1:], ((thing[0],),) + thing[1:], thing[0], (thing,))

    def test_places(self):
        for thing in RIGHT:
            if thing[0] in ("take_new", "take_old", "arg_new", "arg_old", "arg_local", "give_new", "give_old", "give_unsafe", "keep_entry",
                            "keep_now", "cut_to", "soft_cut"):
                self.wrong(*[(thing[0], place) + thing[2:] for place in NO_PLACES])
        self.wrong(("give_unsafe", X, 1))

    def test_numbers_of_registers(self):
        for word in ("take_new", "take_old", "give_new", "give_old", "give_unsafe"):
            self.wrong(*[(word, Y, wrong) for wrong in NO_NUMBERS])
        for word in ("take_const", "give_const"):
            self.wrong(*[(word, "a", wrong) for wrong in NO_NUMBERS])
        for word in ("take_struct", "give_struct"):
            self.wrong(*[(word, "f", 1, wrong) for wrong in NO_NUMBERS])
        self.wrong(*[("arg_skip", wrong) for wrong in NO_NUMBERS])

    def test_constants_and_names(self):
        for wrong in NO_CONSTANTS:
            self.wrong(("take_const", wrong, 1), ("give_const", wrong, 1), ("arg_const", wrong))
        for wrong in NO_NAMES:
            self.wrong(("take_struct", wrong, 1, 1), ("give_struct", wrong, 1, 1))

    def test_numbers_of_arguments_and_slots(self):
        for wrong in NO_ARITIES:
            self.wrong(("take_struct", "f", wrong, 1), ("give_struct", "f", wrong, 1))
        for wrong in NO_MANY:
            self.wrong(("frame", wrong), ("call", ("p", 1), wrong))

    def test_keys(self):
        for wrong in NO_KEYS:
            self.wrong(("builtin", wrong), ("jump", wrong), ("call", wrong, 0))
        for arity in (8, 9, 300):
            for word in ("builtin", "jump"):
                self.assertIs(is_instruction((word, ("p", arity))), arity == 8)
                self.assertIs(is_instruction((word, (5, arity))), True)

    def test_anything_else(self):
        self.wrong(*odd_values(), "", 0, (), [], "return", ["return"], Unlike(), (Unlike(),), ({},), ([],), (("return",),))


P = ("jump", ("p", 0))
R = ("return",)


class Code(unittest.TestCase):
    def check(self, expected, *codes):
        for code in codes:
            with self.subTest(str(code)[:80]):
                self.assertIs(is_code(code), expected)

    def test_the_end(self):
        self.check(True, [P], [R], [("frame", 0), ("unframe",), R], [("call", ("p", 0), 0), P])
        self.check(False, [], [("frame", 0)], [("call", ("p", 0), 0)], [R, R], [P, R], [R, P], [P, ("frame", 0)], [("frame", 1), R, ("unframe",), R])

    def test_arguments_of_structures(self):
        one, two, a, skip = ("take_struct", "f", 1, 1), ("give_struct", "f", 2, 1), ("arg_const", "a"), ("arg_skip", 2)
        self.check(True, [one, a, R], [two, a, a, R], [two, skip, R], [one, ("arg_skip", 1), R], [one, a, two, skip, one, a, P],
                   [("take_struct", "f", 8, 1), ("arg_skip", 3), a, ("arg_skip", 4), R], [two, ("arg_new", X), ("arg_old", X), R],
                   [two, ("arg_skip", 1), ("arg_skip", 1), R])
        self.check(False, [a, R], [skip, R], [("frame", 0), a, R], [one, R], [two, a, R], [one, a, a, R], [one, skip, R], [two, a, skip, R], [two, skip, a, R],
                   [two, a, ("frame", 0), a, R], [two, a, two, a, a, a, R], [one, two, a, a, a, R], [two, ("frame", 0), a, a, R], [one, P, a], [one, a, P, a],
                   [("take_struct", "f", 8, 1), ("arg_skip", 9), R], [one, a], [two, a, a], [two, a, P])

    def test_instructions_that_are_none(self):
        self.check(False, [("frame", -1), R], [["return"]], [None, R], [R, None], ["return"], [{}, R], [("take_new", ["x", 1], 1), R], [("arg_skip", 0), R])

    def test_anything_else(self):
        self.check(False, *odd_values(), (R,), "", 0, R, {0: R}, None, (), [[R]])
        self.check(True, [R])


class Named(unittest.TestCase):
    def test_registers_and_slots(self):
        for code, most, slots in [
                ([R], 0, 0), ([("jump", ("p", 8))], 0, 0), ([("frame", 5), ("call", ("p", 3), 4), ("unframe",), R], 0, 0), ([("take_new", ("x", 4), 2), R], 4, 0),
                ([("take_new", ("x", 2), 7), R], 7, 0), ([("take_old", ("y", 9), 2), R], 2, 9), ([("take_const", 100, 3), R], 3, 0),
                ([("take_struct", "f", 8, 2), ("arg_skip", 8), R], 2, 0), ([("take_struct", "f", 1, 2), ("arg_new", ("x", 6)), R], 6, 0),
                ([("take_struct", "f", 1, 2), ("arg_old", ("y", 6)), R], 2, 6), ([("give_struct", "f", 1, 3), ("arg_local", ("x", 5)), R], 5, 0),
                ([("give_struct", "f", 1, 3), ("arg_const", 50), R], 3, 0), ([("give_new", ("x", 3), 3), R], 3, 0), ([("give_new", ("y", 3), 1), R], 1, 3),
                ([("give_old", ("x", 3), 1), R], 3, 0), ([("give_unsafe", ("y", 4), 1), R], 1, 4), ([("give_const", 7, 2), R], 2, 0), ([("keep_entry", ("x", 3)), R], 3, 0),
                ([("keep_now", ("y", 3)), R], 0, 3), ([("cut_to", ("x", 2)), R], 2, 0), ([("soft_cut", ("y", 2)), R], 0, 2), ([("builtin", ("p", 3)), R], 0, 0),
                ([("give_const", 7, 9), ("give_old", ("y", 8), 2), ("cut_to", ("y", 1)), R], 9, 8)]:
            with self.subTest(str(code)):
                self.assertEqual((registers(code), slots_of(code)), (most, slots))

    def test_errors(self):
        for wrong in odd_values() + [[], [P, R], (R,), [("arg_skip", 1), R], [("take_new", ("x", 0), 1), R], "", 5]:
            for call in (registers, slots_of):
                with self.assertRaises(NoCode) as caught:
                    call(wrong)
                self.assertEqual(caught.exception.why, "form")


if __name__ == "__main__":
    unittest.main()
