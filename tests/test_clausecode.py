"""[10.7]: clauses, read out of their code."""

import unittest

from hornmill.clausecode import flat_of
from hornmill.code import is_code
from hornmill.compiling import compiled
from hornmill.errors import NoCode
from tests.flat_clauses import flats_of_clauses, renumbered_flat, some_flat
from tests.support import chance, list_of, odd_values, tower
from tests.test_code import NO_KEYS

P, R = ("p", 0), ("return",)
A, B, C = [(k,) for k in range(3)]


def whole(key, code):
    """What flat_of returns, or the word of its error."""
    try:
        return flat_of(key, code)
    except NoCode as error:
        return error.why


class Reading(unittest.TestCase):
    def test_small_clauses(self):
        for flat in ((P, (), ()), (("p", 3), (A, B, C), ()), (("p", 2), (A, A), ()), (("p", 2), ("a", ("f", A, ("g", B, A), 7)), ()), ((5, 9), (A,) + ("b",) * 8, ()),
                     (P, (), (("call", P, ()),)), (P, (), (("call", ("bagof", 3), (A, B, A)),)), (P, (), (("do", ("call", 1), (("f", A),)), ("do", ("nl", 0), ()))),
                     ((0, 2), (A, B), (("entry", C), ("call", (1, 2), (A, C)), ("cut", C), ("cut", B))), (P, (), (("now", A), ("soft", A))),
                     (P, (), (("do", (",", 2), (A, B)),)), (P, (), (("do", (-2, 4), (A, B, C, ("f", A))), ("call", (0, 12), ("a",) * 12)))):
            with self.subTest(str(flat)):
                self.assertEqual(flat_of(flat[0], compiled(flat)), flat)

    def test_variables_are_numbered_as_they_stand(self):
        flat = (("p", 2), (("f", (9,), ("g", (4,))), (9,)), (("call", ("q", 2), (("h", (7,), (4,)), (2,))), ("call", ("q", 2), ((7,), (0,)))))
        self.assertEqual(flat_of(("p", 2), compiled(flat)), renumbered_flat(flat))
        self.assertEqual(flat_of(("p", 2), compiled(flat)), (
            ("p", 2), (("f", A, ("g", B)), A), (("call", ("q", 2), (("h", C, B), (3,))), ("call", ("q", 2), (C, (4,))))))

    def test_arguments_stay(self):
        code = compiled((("p", 1), (("f", A),), (("call", P, ()),)))
        before = list(code)
        flat_of(("p", 1), code)
        self.assertEqual(code, before)

    def test_great_terms(self):
        for flat in ((("p", 1), (tower(300, A),), (("call", ("q", 1), (tower(300, A),)),)), (("p", 1), (list_of([(k,) for k in range(250)], 0),), ())):
            self.assertEqual(flat_of(flat[0], compiled(flat)), flat)


class Wrong(unittest.TestCase):
    def check(self, why, key, code):
        with self.subTest(key=str(key)[:60], code=str(code)[:160]):
            self.assertEqual(whole(key, code), why)

    def test_forms(self):
        for wrong in odd_values() + ["", 0, [], (R,), [R, R], [("frame", 0)], [("arg_skip", 1), R], [("take_new", ("x", True), 1), R]]:
            self.check("form", P, wrong)
            self.check("form", ("p", 9), wrong)
        for wrong in odd_values() + NO_KEYS:
            self.check("form", wrong, [R])
            # Ahead of code that is that of no clause.
            self.check("form", wrong, [("unframe",), R])
            self.check("form", wrong, None)

    def test_code_of_no_clause(self):
        for key, code in (
                (P, [("unframe",), R]), (P, [("frame", 0), R]), (P, [("frame", 0), ("unframe",), R]), (P, [("frame", 0), ("call", P, 0), ("jump", P)]),
                (P, [("call", P, 0), ("jump", P)]), (P, [("frame", 1), ("call", P, 0), ("unframe",), ("jump", P)]), (P, [("frame", 0), ("call", P, 1), ("unframe",), ("jump", P)]),
                (("p", 1), [("take_new", ("x", 2), 1), R]), (("p", 1), [("take_old", ("x", 2), 1), R]), (P, [("take_const", "a", 1), R]), (P, [("jump", ("q", 1))]),
                (P, [("give_const", "a", 1), ("jump", ("q", 2))]), (P, [("give_const", "a", 2), ("jump", ("q", 1))]), (P, [("give_const", "a", 1), ("give_const", "a", 1), ("jump", ("q", 1))]),
                (P, [("give_const", "a", 1), R]), (P, [("give_const", "a", 1), ("jump", P)]), (P, [("give_new", ("x", 1), 1), ("jump", ("q", 1))]),
                (P, [("give_new", ("x", 3), 1), ("jump", ("q", 1))]), (P, [("give_old", ("x", 2), 1), ("jump", ("q", 1))]), (P, [("give_new", ("y", 1), 1), ("jump", ("q", 1))]),
                (P, [("builtin", P), R]), (P, [("builtin", ("call", 0)), R]), (P, [("jump", ("nl", 0))]), (P, [("frame", 0), ("call", ("nl", 0), 0), ("unframe",), R]),
                (P, [("builtin", ("true", 0)), R]), (P, [("give_const", "a", 1), ("builtin", ("call", 1)), R]), (P, [("keep_entry", ("x", 2)), R]), (P, [("keep_entry", ("y", 1)), R]),
                (P, [("cut_to", ("x", 1)), R]), (P, [("soft_cut", ("x", 1)), R]), (("p", 1), [("take_new", ("x", 2), 1), ("cut_to", ("x", 2)), R]),
                (P, [("keep_now", ("x", 1)), ("keep_now", ("x", 1)), R]), (P, [("frame", 1), ("call", P, 0), ("keep_entry", ("x", 1)), ("unframe",), R]),
                (P, [("give_struct", "f", 1, 1), ("arg_skip", 1), R]), (P, [("give_struct", "f", 2, 1), ("arg_skip", 1), ("arg_skip", 1), ("jump", ("q", 1))]),
                (P, [("give_struct", "f", 1, 1), ("arg_new", ("x", 2)), ("jump", ("q", 1))]), (P, [("give_struct", "f", 1, 1), ("arg_old", ("x", 1)), ("jump", ("q", 1))]),
                (P, [("give_struct", "g", 1, 2), ("arg_skip", 1), ("give_struct", "f", 2, 1), ("arg_old", ("x", 2)), ("arg_old", ("x", 2)), ("jump", ("q", 1))]),
                (P, [("give_struct", "g", 1, 3), ("arg_skip", 1), ("give_struct", "f", 1, 1), ("arg_old", ("x", 3)), ("jump", ("q", 1))]),
                (P, [("give_struct", "g", 1, 2), ("arg_skip", 1), ("give_struct", "g", 1, 2), ("arg_skip", 1), ("give_struct", "f", 1, 1), ("arg_old", ("x", 2)), ("jump", ("q", 1))]),
                (("p", 1), [("take_struct", "f", 1, 1), ("arg_const", "a"), ("take_struct", "f", 1, 1), ("arg_const", "a"), R]),
                (("p", 1), [("take_struct", "f", 1, 1), ("arg_new", ("x", 2)), R]), (("p", 1), [("take_struct", "f", 1, 2), ("arg_const", "a"), R]),
                (("p", 2), [("take_const", "a", 2), ("take_const", "a", 1), R]), (("p", 2), [("take_const", "a", 1), ("take_new", ("x", 3), 2), R]),
                (P, [("jump", (0, 10 ** 30))]), (P, [("frame", 0), ("call", ("p", 1), 0), ("unframe",), R])):
            self.assertIs(is_code(code), True)
            self.check("clause", key, code)

    def test_another_key(self):
        code = compiled((("p", 2), (("f", A), A), (("call", ("q", 1), (A,)),)))
        self.assertEqual(flat_of(("other", 2), code)[0], ("other", 2))
        self.assertEqual(flat_of((3, 2), code)[0], (3, 2))
        for key in (("p", 1), ("p", 0), ("p", 3), (0, 3)):
            self.check("clause", key, code)


def mutated(rng, code):
    """Code with one change."""
    code = list(code)
    at = rng.randrange(len(code))
    kind = rng.randrange(6)
    if kind == 0:
        del code[at]
    elif kind == 1:
        code.insert(at, code[at])
    elif kind == 2 and at + 1 < len(code):
        code[at], code[at + 1] = code[at + 1], code[at]
    elif kind == 3:
        code.insert(rng.randrange(len(code)), code.pop(at))
    else:
        code[at] = changed(rng, code[at])
    return code


def changed(rng, instruction):
    """An instruction with another register, slot, name or number."""
    row = list(instruction)
    at = rng.randrange(len(row))
    one = row[at]
    if type(one) is int:
        row[at] = one + rng.choice([-1, 1, 1, 2])
    elif type(one) is tuple and one[0] in ("x", "y"):
        row[at] = rng.choice([(one[0], one[1] + rng.choice([-1, 1])), ({"x": "y", "y": "x"}[one[0]], one[1])])
    elif type(one) is tuple:
        row[at] = rng.choice([(one[0], one[1] + 1), ("other", one[1]), (one[0], one[1] - 1), ("call", 1), ("nl", 0)])
    elif at > 0:
        row[at] = "other"
    else:
        row[0] = rng.choice(["take_new", "take_old", "take_const", "give_new", "give_old", "give_const", "give_unsafe", "arg_new", "arg_old", "arg_local", "arg_const",
                             "keep_entry", "keep_now", "cut_to", "soft_cut", "call", "jump", "builtin"])
    return tuple(row)


class ByChance(unittest.TestCase):
    def test_codes_of_clauses(self):
        rng = chance(2)
        for _ in range(1200):
            for flat in [some_flat(rng)] + flats_of_clauses(rng):
                self.assertEqual(flat_of(flat[0], compiled(flat)), renumbered_flat(flat))

    def test_changed_codes(self):
        rng = chance(31)
        told = {}
        for _ in range(6000):
            flat = some_flat(rng)
            code = mutated(rng, compiled(flat))
            found = whole(flat[0], code)
            if isinstance(found, tuple):
                self.assertEqual(compiled(found), code)
                self.assertEqual(renumbered_flat(found), found)
            else:
                self.assertEqual(found, "clause" if is_code(code) else "form")
            told[found if isinstance(found, str) else "read"] = told.get(found if isinstance(found, str) else "read", 0) + 1
        self.assertTrue(all(told[word] > 200 for word in ("form", "clause", "read")), told)


if __name__ == "__main__":
    unittest.main()
