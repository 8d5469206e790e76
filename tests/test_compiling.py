"""[10.3] to [10.6]: chunks, slots, trims, code, unsafe variables."""

import unittest

from hornmill.chunks import chunks, has_frame, slots, trims
from hornmill.code import is_code
from hornmill.compiling import compiled, size, unsafe
from tests.flat_clauses import flats_of_clauses, slow_chunks, slow_compiled, slow_slots, slow_trims, slow_unsafe, some_flat, with_other_numbers
from tests.support import chance, list_of, tower

A, B, C, D, E, F = [(k,) for k in range(6)]
NL = ("do", ("nl", 0), ())


def goal(name, *terms):
    return ("call", (name, len(terms)), terms)


def do(name, *terms):
    return ("do", (name, len(terms)), terms)


def flat(head, *goals):
    head = head if isinstance(head, tuple) else (head,)
    return ((head[0], len(head) - 1), head[1:], goals)


class Chunks(unittest.TestCase):
    def check(self, one, rows, framed, told_slots, told_trims):
        with self.subTest(str(one)):
            self.assertEqual([len(row) for row in chunks(one)], rows)
            self.assertEqual([goal for row in chunks(one) for goal in row], list(one[2]))
            self.assertIs(has_frame(one), framed)
            self.assertEqual(slots(one), told_slots)
            self.assertEqual(trims(one), told_trims)

    def test_small_clauses(self):
        self.check(flat("p"), [0], False, [], [])
        self.check(flat(("p", A, A)), [0], False, [], [])
        self.check(flat("p", goal("q", A)), [1], False, [], [0])
        self.check(flat(("p", A), goal("q", A)), [1], False, [], [0])
        self.check(flat("p", NL), [1], False, [], [])
        self.check(flat("p", NL, goal("q"), NL), [2, 1], True, [], [0])
        self.check(flat("p", goal("q"), goal("q")), [1, 1], True, [], [0, 0])
        self.check(flat(("p", A), NL, NL, goal("q", A)), [3], False, [], [0])
        self.check(flat(("p", A), goal("q"), NL, do("var", A)), [1, 2], True, [A], [1])

    def test_what_a_call_is(self):
        for name, arity in (("call", 1), ("call", 8), ("catch", 3), ("throw", 1), ("findall", 3), ("findall", 4), ("arg", 3), ("between", 3), ("clause", 2), ("retract", 1),
                            ("sub_atom", 5), ("atom_concat", 3), ("true", 0), (",", 2), (-2, 4)):
            self.check(flat("p", ("do", (name, arity), ("a",) * arity), NL), [1, 1], True, [], [0])
        for name, arity in (("fail", 0), ("=", 2), ("is", 2), ("functor", 3), ("assertz", 1), (-1, 6), (-3, 4), (-4, 3), ("sort", 2)):
            self.check(flat("p", ("do", (name, arity), ("a",) * arity), NL), [2], False, [], [])
        for key in (("q", 0), ("bagof", 3), (0, 2), ("=", 3)):
            self.check(flat("p", ("call", key, ("a",) * key[1]), NL), [1, 1], True, [], [0])

    def test_slots(self):
        # Those that stand last in the latest chunk come first; of those that end alike, those that stand first.
        self.check(flat(("p", C, A, B), goal("q", A), goal("q", B), goal("q", C, D), goal("r", D)), [1, 1, 1, 1], True, [D, C, B], [3, 2, 1, 0])
        self.check(flat(("p", ("f", C, ("g", A)), B), goal("q"), goal("q", B, A, C)), [1, 1], True, [C, A, B], [3, 0])
        self.check(flat("p", goal("q", E), goal("q", ("f", B, ("g", A)), E), goal("q", A, B)), [1, 1, 1], True, [B, A, E], [3, 2, 0])
        # One that stands in later chunks alone has a slot from the beginning.
        self.check(flat("p", goal("q"), goal("q", A), goal("q", A)), [1, 1, 1], True, [A], [1, 1, 0])
        self.check(flat(("p", A), ("entry", B), goal("q"), NL, ("cut", B)), [2, 2], True, [B], [1])
        self.check(flat(("p", 7 * ("a",), (9,)), ("now", (11,)), goal("q", (9,)), ("cut", (11,)), NL, goal("q", (9,)), NL), [2, 3, 1], True, [(9,), (11,)], [2, 0])

    def test_lists_are_new(self):
        one = flat(("p", A), goal("q", A), goal("q", A))
        chunks(one)[0].append("spoilt")
        slots(one).clear()
        trims(one).clear()
        compiled(one).clear()
        self.assertEqual((chunks(one), slots(one), trims(one), size(one)), ([[goal("q", A)], [goal("q", A)]], [A], [1, 0], 7))


class Codes(unittest.TestCase):
    def check(self, one, *code, **more):
        with self.subTest(str(one)):
            self.assertEqual(compiled(one), list(code))
            self.assertEqual(slow_compiled(one), list(code))
            self.assertIs(is_code(list(code)), True)
            self.assertEqual(size(one), len(code))
            self.assertEqual(unsafe(one), more.get("unsafe", []))

    def test_examples(self):
        self.check(flat(("app", (".", A, B), C, (".", A, D)), goal("app", B, C, D)),
                   ("take_new", ("x", 4), 2), ("take_struct", ".", 2, 1), ("arg_new", ("x", 5)), ("arg_new", ("x", 6)), ("take_struct", ".", 2, 3), ("arg_old", ("x", 5)),
                   ("arg_new", ("x", 7)), ("give_old", ("x", 6), 1), ("give_old", ("x", 4), 2), ("give_old", ("x", 7), 3), ("jump", ("app", 3)))
        self.check(flat(("rev", (".", A, B), C), goal("rev", B, D), goal("app", D, (".", A, "[]"), C)),
                   ("frame", 3), ("take_new", ("y", 2), 2), ("take_struct", ".", 2, 1), ("arg_new", ("y", 1)), ("arg_new", ("x", 4)), ("give_old", ("x", 4), 1),
                   ("give_new", ("y", 3), 2), ("call", ("rev", 2), 3), ("give_unsafe", ("y", 3), 1), ("give_struct", ".", 2, 2), ("arg_old", ("y", 1)), ("arg_const", "[]"),
                   ("give_old", ("y", 2), 3), ("unframe",), ("jump", ("app", 3)), unsafe=[3])

    def test_heads(self):
        self.check(flat("p"), ("return",))
        self.check(flat(("p", A, B)), ("return",))
        self.check(flat(("p", A, A)), ("take_new", ("x", 3), 1), ("take_old", ("x", 3), 2), ("return",))
        self.check(flat(("p", "a", 5, "[]")), ("take_const", "a", 1), ("take_const", 5, 2), ("take_const", "[]", 3), ("return",))
        # Variables go ahead of all others.
        self.check(flat(("p", "a", A, ("f", A), A)), ("take_new", ("x", 5), 2), ("take_old", ("x", 5), 4), ("take_const", "a", 1), ("take_struct", "f", 1, 3),
                   ("arg_local", ("x", 5)), ("return",))
        self.check(flat(("p", ("f", A, A, B), ("g", A))), ("take_struct", "f", 3, 1), ("arg_new", ("x", 3)), ("arg_old", ("x", 3)), ("arg_skip", 1),
                   ("take_struct", "g", 1, 2), ("arg_old", ("x", 3)), ("return",))

    def test_structures_in_heads(self):
        self.check(flat(("p", ("f", ("g", ("h", A)), "a", ("i", ("j", "b"), ("k", A))))),
                   ("take_struct", "f", 3, 1), ("arg_new", ("x", 2)), ("arg_const", "a"), ("arg_new", ("x", 3)), ("take_struct", "g", 1, 2), ("arg_new", ("x", 4)),
                   ("take_struct", "i", 2, 3), ("arg_new", ("x", 5)), ("arg_new", ("x", 6)), ("take_struct", "h", 1, 4), ("arg_new", ("x", 7)),
                   ("take_struct", "j", 1, 5), ("arg_const", "b"), ("take_struct", "k", 1, 6), ("arg_old", ("x", 7)), ("return",))
        # Each argument has a row of its own; registers are given out as the code goes.
        self.check(flat(("p", ("f", ("g", A)), ("f", ("g", A)))), ("take_struct", "f", 1, 1), ("arg_new", ("x", 3)), ("take_struct", "g", 1, 3), ("arg_new", ("x", 4)),
                   ("take_struct", "f", 1, 2), ("arg_new", ("x", 5)), ("take_struct", "g", 1, 5), ("arg_old", ("x", 4)), ("return",))

    def test_single_variables_side_by_side(self):
        self.check(flat(("p", ("f", A, B, "a", C, ("g", D), E))), ("take_struct", "f", 6, 1), ("arg_skip", 2), ("arg_const", "a"), ("arg_skip", 1), ("arg_new", ("x", 2)),
                   ("arg_skip", 1), ("take_struct", "g", 1, 2), ("arg_skip", 1), ("return",))
        self.check(flat("p", do("=", ("f", A, B), ("g", ("f", C, D), E, F))), ("give_struct", "f", 2, 1), ("arg_skip", 2), ("give_struct", "f", 2, 3), ("arg_skip", 2),
                   ("give_struct", "g", 3, 2), ("arg_old", ("x", 3)), ("arg_skip", 2), ("builtin", ("=", 2)), ("return",))

    def test_goals(self):
        self.check(flat("p", goal("q")), ("jump", ("q", 0)))
        self.check(flat("p", NL), ("builtin", ("nl", 0)), ("return",))
        self.check(flat("p", goal("q"), NL), ("frame", 0), ("call", ("q", 0), 0), ("builtin", ("nl", 0)), ("unframe",), ("return",))
        self.check(flat("p", do("call", "a"), do("between", 1, 2, A)), ("frame", 0), ("give_const", "a", 1), ("call", ("call", 1), 0), ("give_const", 1, 1), ("give_const", 2, 2),
                   ("give_new", ("x", 4), 3), ("unframe",), ("jump", ("between", 3)))
        self.check(flat(("p", A), do("is", B, ("+", A, 1)), goal("q", B)), ("take_new", ("x", 3), 1), ("give_new", ("x", 4), 1), ("give_struct", "+", 2, 2),
                   ("arg_local", ("x", 3)), ("arg_const", 1), ("builtin", ("is", 2)), ("give_old", ("x", 4), 1), ("jump", ("q", 1)))

    def test_structures_in_goals(self):
        self.check(flat(("p", B), goal("q", ("f", ("g", ("h", A)), B, ("i", ("j", A), ("k", "b"))))),
                   ("take_new", ("x", 2), 1), ("give_struct", "h", 1, 3), ("arg_new", ("x", 4)), ("give_struct", "g", 1, 5), ("arg_old", ("x", 3)),
                   ("give_struct", "j", 1, 6), ("arg_old", ("x", 4)), ("give_struct", "k", 1, 7), ("arg_const", "b"), ("give_struct", "i", 2, 8), ("arg_old", ("x", 6)),
                   ("arg_old", ("x", 7)), ("give_struct", "f", 3, 1), ("arg_old", ("x", 5)), ("arg_local", ("x", 2)), ("arg_old", ("x", 8)), ("jump", ("q", 1)))

    def test_where_variables_are_named_first(self):
        # First in a structure, then by itself; the other way round; first in the slot of a later chunk.
        self.check(flat("p", do("=", ("f", A), A)), ("give_struct", "f", 1, 1), ("arg_new", ("x", 3)), ("give_old", ("x", 3), 2), ("builtin", ("=", 2)), ("return",))
        self.check(flat("p", do("=", A, ("f", A))), ("give_new", ("x", 3), 1), ("give_struct", "f", 1, 2), ("arg_local", ("x", 3)), ("builtin", ("=", 2)), ("return",))
        self.check(flat("p", goal("q", A), goal("q", ("f", A))), ("frame", 1), ("give_new", ("y", 1), 1), ("call", ("q", 1), 1), ("give_struct", "f", 1, 1),
                   ("arg_local", ("y", 1)), ("unframe",), ("jump", ("q", 1)))
        self.check(flat("p", goal("q", ("f", A)), goal("q", A)), ("frame", 1), ("give_struct", "f", 1, 1), ("arg_new", ("y", 1)), ("call", ("q", 1), 1),
                   ("give_old", ("y", 1), 1), ("unframe",), ("jump", ("q", 1)))

    def test_levels(self):
        new = ("call", (3, 2), (A, B))
        self.check(((1, 2), (A, B), (("entry", C), ("now", D), new, ("cut", D), ("soft", C), ("cut", B))),
                   ("frame", 3), ("take_new", ("x", 3), 1), ("take_new", ("y", 1), 2), ("keep_entry", ("y", 2)), ("keep_now", ("y", 3)), ("give_old", ("x", 3), 1),
                   ("give_old", ("y", 1), 2), ("call", (3, 2), 3), ("cut_to", ("y", 3)), ("soft_cut", ("y", 2)), ("cut_to", ("y", 1)), ("unframe",), ("return",))
        self.check(flat("p", ("entry", A), NL, ("cut", A), ("now", B)), ("keep_entry", ("x", 1)), ("builtin", ("nl", 0)), ("cut_to", ("x", 1)), ("keep_now", ("x", 2)), ("return",))
        self.check(flat("p", ("entry", A), ("call", (0, 1), (A,))), ("keep_entry", ("x", 2)), ("give_old", ("x", 2), 1), ("jump", (0, 1)))

    def test_registers_lie_above_the_greatest_number_of_arguments(self):
        for goals, k in (((), 2), ((goal("q"),), 2), ((goal("q", "a", "a", "a"),), 3), ((do("sub_atom", *["a"] * 5), goal("q", "a")), 5), ((("call", (0, 40), ("a",) * 40),), 40)):
            self.assertIn(("take_new", ("x", k + 1), 1), compiled(flat(("p", A, A), *goals)))

    def test_unsafe(self):
        self.check(flat("p", goal("q", A, B), goal("r", B, A, B)), ("frame", 2), ("give_new", ("y", 1), 1), ("give_new", ("y", 2), 2), ("call", ("q", 2), 2),
                   ("give_unsafe", ("y", 2), 1), ("give_unsafe", ("y", 1), 2), ("give_unsafe", ("y", 2), 3), ("unframe",), ("jump", ("r", 3)), unsafe=[0, 1])
        # Not in a call that is not the last one, nor in a builtin, nor within a structure.
        self.check(flat("p", goal("q", A), goal("q", A), do("var", A), goal("q", A), NL),
                   ("frame", 1), ("give_new", ("y", 1), 1), ("call", ("q", 1), 1), ("give_old", ("y", 1), 1), ("call", ("q", 1), 1), ("give_old", ("y", 1), 1),
                   ("builtin", ("var", 1)), ("give_unsafe", ("y", 1), 1), ("call", ("q", 1), 0), ("builtin", ("nl", 0)), ("unframe",), ("return",), unsafe=[0])
        self.check(flat("p", goal("q", A), do("var", A)), ("frame", 1), ("give_new", ("y", 1), 1), ("call", ("q", 1), 1), ("give_old", ("y", 1), 1), ("builtin", ("var", 1)),
                   ("unframe",), ("return",))
        self.check(flat("p", goal("q", A), goal("q", ("f", A), A)), ("frame", 1), ("give_new", ("y", 1), 1), ("call", ("q", 1), 1), ("give_struct", "f", 1, 1),
                   ("arg_local", ("y", 1)), ("give_unsafe", ("y", 1), 2), ("unframe",), ("jump", ("q", 2)), unsafe=[0])
        # Not what was first named otherwise.
        self.assertEqual(unsafe(flat(("p", A), goal("q", A), goal("q", A))), [])
        self.assertEqual(unsafe(flat(("p", ("f", A)), goal("q", A), goal("q", A))), [])
        self.assertEqual(unsafe(flat("p", goal("q", ("f", A)), goal("q", A))), [])
        self.assertEqual(unsafe(flat("p", goal("q", (70,), (8,)), goal("q", (8,)), do("call", (70,)), goal("q", (8,), (5,)))), [8, 70])

    def test_other_numbers_for_variables(self):
        rng = chance(5)
        for _ in range(300):
            one = some_flat(rng)
            self.assertEqual(compiled(one), compiled(with_other_numbers(rng, one)))

    def test_great_terms(self):
        deep, long = tower(300, A), list_of([(k,) for k in range(140)], A)
        one = flat(("p", deep, long), goal("q", long, deep))
        self.assertEqual(compiled(one), slow_compiled(one))


class ByChance(unittest.TestCase):
    def test_against_the_slow_way(self):
        rng = chance(8)
        words = set()
        for _ in range(1500):
            for one in [some_flat(rng)] + flats_of_clauses(rng):
                code = compiled(one)
                words |= {instruction[0] for instruction in code}
                self.assertEqual(code, slow_compiled(one))
                self.assertIs(is_code(code), True)
                self.assertEqual((chunks(one), slots(one), trims(one)), (slow_chunks(one), slow_slots(one), slow_trims(one)))
                self.assertEqual((unsafe(one), size(one), has_frame(one)), (slow_unsafe(one), len(code), code[0][0] == "frame"))
        self.assertEqual(len(words), 24)


if __name__ == "__main__":
    unittest.main()
