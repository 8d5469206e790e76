"""[13.1] to [13.4]: what places hold, what instructions need, and the faults of code."""

import unittest

from hornmill.chunks import trims
from hornmill.compiling import compiled
from hornmill.errors import BadValue, NoCode
from hornmill.judge import held, judge, least_trims
from tests.flat_clauses import flats_of_clauses, some_flat
from tests.support import chance, odd_values

R, P = ("return",), ("jump", ("p", 0))
X1, X2, X3, Y1, Y2 = ("x", 1), ("x", 2), ("x", 3), ("y", 1), ("y", 2)
FRAME, UNFRAME = ("frame", 2), ("unframe",)
# Instructions behind which a place holds something of each kind; those of slots stand behind a frame.
GIVEN = []
SAFE = [("give_const", "a", 2)]
LEVEL = [("keep_now", X2)]
SLOT = [FRAME, ("give_new", Y1, 2)]
LATER = [FRAME, ("give_new", Y2, 2)]
OLD = [("take_struct", "f", 1, 1), ("arg_local", X1), ("give_old", X1, 2)]
LOST = LATER + [UNFRAME]


class Faults(unittest.TestCase):
    def check(self, arity, code, expected):
        with self.subTest(arity=arity, code=str(code)):
            self.assertEqual(judge(arity, code), expected)

    def last(self, word, before, instruction, arity=1):
        """Check the fault of an instruction behind some others, at which no other code ends."""
        args = [("arg_const", "a")] * instruction[2] if instruction[0] in ("take_struct", "give_struct") else []
        if instruction[0] in ("jump", "return"):
            code = before + [instruction]
        else:
            code = before + [instruction] + args + [R if word is not None or not open_frame(before + [instruction]) else UNFRAME]
            code += [R] if code[-1] == UNFRAME else []
        self.check(arity, code, None if word is None else (len(before), word))

    def argument(self, word, before, instruction, arity=1, start=("give_struct", "f", 1, 9)):
        code = before + [start, instruction] + ([UNFRAME] if open_frame(before) else []) + [R]
        self.check(arity, code, None if word is None else (len(before) + 1, word))

    def test_example(self):
        code = [("frame", 1), ("give_new", Y1, 1), ("call", ("p", 1), 1), ("give_old", Y1, 1), UNFRAME, ("jump", ("q", 1))]
        self.assertEqual([judge(0, code), held(0, code, 3), judge(0, code[:3] + [("give_unsafe", Y1, 1)] + code[4:])], [(5, "unsafe"), (1, {Y1: ("slot", 1)}), None])

    def test_take_new(self):
        self.last(None, GIVEN, ("take_new", X3, 1))
        self.last("nothing", GIVEN, ("take_new", X3, 2))
        self.last("frame", GIVEN, ("take_new", Y1, 1))
        self.last("frame", GIVEN, ("take_new", Y1, 5))
        self.last("slot", [FRAME], ("take_new", ("y", 3), 1))
        self.last("slot", [FRAME], ("take_new", ("y", 3), 7))
        self.last(None, [FRAME], ("take_new", Y2, 1))
        self.last(None, LEVEL, ("take_new", X3, 2))
        self.last("unsafe", LATER, ("take_new", Y1, 2))
        self.last(None, LATER, ("take_new", Y2, 2))
        self.last(None, SLOT, ("take_new", Y2, 2))
        self.last(None, LATER, ("take_new", X3, 2))
        self.last("unsafe", LOST, ("take_new", X3, 2))

    def test_take_old(self):
        self.last(None, SAFE, ("take_old", X2, 1))
        self.last("nothing", GIVEN, ("take_old", X2, 1))
        self.last("nothing", GIVEN, ("take_old", X1, 2))
        self.last("level", LEVEL, ("take_old", X2, 1))
        self.last("level", LEVEL, ("take_old", X1, 2))
        self.last("nothing", LEVEL, ("take_old", X2, 3))
        self.last("nothing", LOST, ("take_old", X2, 3))
        self.last("unsafe", LOST, ("take_old", X2, 1))
        self.last("unsafe", LOST, ("take_old", X1, 2))
        self.last("frame", GIVEN, ("take_old", Y1, 1))
        self.last("slot", [FRAME], ("take_old", ("y", 3), 1))
        self.last("nothing", [FRAME], ("take_old", Y2, 1))
        self.last(None, SLOT, ("take_old", Y1, 2))
        self.last("level", LEVEL + [FRAME, ("give_new", Y1, 3), UNFRAME], ("take_old", X3, 2))

    def test_constants_and_structures_that_are_taken(self):
        for instruction, far in ((("take_const", "a", 1), ("take_const", "a", 2)), (("take_struct", "f", 2, 1), ("take_struct", "f", 2, 2))):
            self.last(None, GIVEN, instruction)
            self.last("nothing", GIVEN, far)
            self.last("level", LEVEL, far)
            self.last("unsafe", LOST, far)
            self.last(None, SLOT, far)
            self.last(None, OLD, far)

    def test_arguments(self):
        for start in (("give_struct", "f", 1, 9), ("take_struct", "f", 1, 1)):
            self.argument(None, GIVEN, ("arg_new", X3), start=start)
            self.argument("frame", GIVEN, ("arg_new", Y1), start=start)
            self.argument("slot", [FRAME], ("arg_new", ("y", 3)), start=start)
            for word in ("arg_old", "arg_local"):
                self.argument("nothing", GIVEN, (word, X2), start=start)
                self.argument("frame", GIVEN, (word, Y1), start=start)
                self.argument("slot", [FRAME], (word, ("y", 3)), start=start)
                self.argument("level", LEVEL, (word, X2), start=start)
                self.argument("unsafe", LOST, (word, X2), start=start)
                self.argument(None, SAFE, (word, X2), start=start)
            for before, place in ((GIVEN, X1), (OLD, X2), (SLOT, X2), (SLOT, Y1)):
                self.argument("local", before, ("arg_old", place), start=start)
                self.argument(None, before, ("arg_local", place), start=start)
            self.argument(None, GIVEN, ("arg_const", 5), start=start)
            self.argument(None, GIVEN, ("arg_skip", 1), start=start)

    def test_a_structure_holds_nothing_until_it_is_told(self):
        self.check(1, [("give_struct", "f", 2, 1), ("arg_local", X1), ("arg_const", "a"), R], (1, "nothing"))
        self.check(1, [("give_struct", "f", 2, 2), ("arg_const", "a"), ("arg_old", X2), R], (2, "nothing"))
        self.check(1, [("give_struct", "f", 1, 2), ("arg_local", X1), ("give_struct", "g", 1, 3), ("arg_old", X2), R], None)
        self.check(1, [("give_struct", "f", 1, 2), ("arg_local", X1), ("take_const", "a", 2), R], None)

    def test_what_is_given(self):
        self.last(None, GIVEN, ("give_new", X3, 3))
        self.last("frame", GIVEN, ("give_new", Y1, 1))
        self.last("slot", [FRAME], ("give_new", ("y", 3), 1))
        self.last("nothing", GIVEN, ("give_old", X2, 3))
        self.last("frame", GIVEN, ("give_old", Y1, 3))
        self.last("slot", SLOT, ("give_old", ("y", 4), 3))
        self.last("nothing", SLOT, ("give_old", Y2, 3))
        self.last(None, LEVEL, ("give_old", X2, 3))
        self.last("unsafe", LOST, ("give_old", X2, 3))
        self.last("frame", GIVEN, ("give_unsafe", Y1, 1))
        self.last("slot", SLOT, ("give_unsafe", ("y", 3), 1))
        self.last("nothing", SLOT, ("give_unsafe", Y2, 1))
        self.last("level", [FRAME, ("keep_now", Y1)], ("give_unsafe", Y1, 1))
        self.last(None, SLOT, ("give_unsafe", Y1, 1))
        self.last(None, GIVEN, ("give_const", "a", 7))
        self.last(None, GIVEN, ("give_struct", "f", 2, 7))

    def test_levels(self):
        for word in ("keep_entry", "keep_now"):
            self.last(None, GIVEN, (word, X1))
            self.last("frame", GIVEN, (word, Y1))
            self.last("slot", [FRAME], (word, ("y", 3)))
        called = [FRAME, ("call", ("q", 0), 1)]
        self.last("entry", called, ("keep_entry", X1))
        self.last("slot", called, ("keep_entry", Y2))
        self.last("entry", called, ("keep_entry", Y1))
        self.last("frame", called + [UNFRAME], ("keep_entry", Y1))
        self.last("entry", called + [UNFRAME], ("keep_entry", X1))
        self.last(None, called, ("keep_now", Y1))
        self.last(None, [("builtin", ("nl", 0))], ("keep_entry", X1))
        for word in ("cut_to", "soft_cut"):
            self.last(None, LEVEL, (word, X2))
            self.last(None, GIVEN, (word, X1))
            self.last("nothing", GIVEN, (word, X2))
            self.last("level", SAFE, (word, X2))
            self.last("level", OLD, (word, X2))
            self.last("level", SLOT, (word, Y1))
            self.last("frame", GIVEN, (word, Y1))
            self.last("slot", [FRAME], (word, ("y", 3)))
            self.last("unsafe", LOST, (word, X2))

    def test_builtins(self):
        self.last(None, SAFE, ("builtin", ("=", 2)))
        self.last("nothing", GIVEN, ("builtin", ("=", 2)))
        self.last("level", LEVEL, ("builtin", ("=", 2)))
        self.last(None, LEVEL, ("builtin", ("var", 1)))
        self.last("unsafe", LOST, ("builtin", ("=", 2)))
        self.last("nothing", LOST, ("builtin", ("arg", 3)))
        self.last(None, GIVEN, ("builtin", ("nl", 0)))
        self.last(None, SLOT, ("builtin", ("=", 2)))

    def test_frames(self):
        self.last("frame", [FRAME], FRAME)
        self.last("frame", GIVEN, UNFRAME)
        self.last("frame", [FRAME, UNFRAME], UNFRAME)
        self.last("frame", [FRAME], R)
        self.last("frame", [FRAME], ("jump", ("q", 1)))
        self.last("frame", [FRAME], ("jump", ("q", 2)))
        self.last(None, [FRAME, UNFRAME, FRAME], UNFRAME)
        self.last("nothing", [FRAME, ("give_new", Y1, 1), UNFRAME, FRAME], ("give_old", Y1, 1))

    def test_calls(self):
        self.last("frame", GIVEN, ("call", ("q", 1), 0))
        self.last("frame", GIVEN, ("call", ("q", 2), 9))
        self.last("slot", [FRAME], ("call", ("q", 1), 3))
        self.last("slot", [FRAME], ("call", ("q", 2), 3))
        self.last("nothing", [FRAME], ("call", ("q", 2), 2))
        self.last(None, [FRAME], ("call", ("q", 1), 2))
        self.last(None, SLOT, ("call", ("q", 2), 1))
        self.last("unsafe", SLOT, ("call", ("q", 2), 0))
        self.last("unsafe", LATER, ("call", ("q", 2), 1))
        # A register that is no argument may hold what goes.
        self.last(None, LATER, ("call", ("q", 1), 1))
        self.last(None, [FRAME, ("keep_now", X2)], ("call", ("q", 2), 1))
        self.last("unsafe", LOST + [FRAME], ("call", ("q", 2), 0))
        self.last("nothing", LOST + [FRAME], ("call", ("q", 3), 0))
        # What slots hold of later ones, by way of a structure that was read there.
        self.last("slot", [FRAME, ("call", ("q", 1), 1)], ("give_new", Y2, 1))
        self.last("nothing", [FRAME, ("call", ("q", 1), 1)], ("give_old", X1, 1))

    def test_a_slot_that_holds_a_later_one(self):
        # Slot 2 holds its own cell, which stays there behind a call that keeps it.
        self.check(0, [FRAME, ("give_new", Y2, 1), ("take_new", Y1, 1), UNFRAME, R], (2, "unsafe"))
        self.check(0, [("frame", 3), ("give_new", Y1, 1), ("take_new", ("y", 3), 1), ("call", ("q", 1), 1), UNFRAME, R], None)
        self.check(0, [("frame", 3), ("give_new", Y1, 1), ("take_new", ("y", 3), 1), ("call", ("q", 1), 3), ("give_old", ("y", 3), 1), ("call", ("q", 1), 1), UNFRAME, R], None)
        self.check(0, [("frame", 3), ("give_new", Y2, 1), ("take_new", ("y", 3), 1), ("call", ("q", 0), 3), ("give_old", ("y", 3), 1), ("call", ("q", 1), 1), UNFRAME, R], (5, "unsafe"))

    def test_ends(self):
        self.last(None, GIVEN, ("jump", ("q", 1)))
        self.last("nothing", GIVEN, ("jump", ("q", 2)))
        self.last(None, LEVEL, ("jump", ("q", 2)))
        self.last("unsafe", LOST, ("jump", ("q", 2)))
        self.last("nothing", LOST, ("jump", ("q", 3)))
        self.last(None, LOST, ("jump", ("q", 1)))
        self.last(None, LOST, R)
        self.last("nothing", [], ("jump", ("q", 1)), arity=0)

    def test_the_first_and_the_last_instruction(self):
        self.check(0, [UNFRAME, R], (0, "frame"))
        self.check(0, [("take_const", "a", 1), ("take_const", "a", 2), R], (0, "nothing"))
        self.check(1, [("take_const", "a", 1), ("take_const", "a", 2), R], (1, "nothing"))
        self.check(0, [FRAME, ("give_new", Y1, 1), UNFRAME, ("jump", ("q", 1))], (3, "unsafe"))
        self.check(3, [R], None)
        self.check(10000, [("take_old", ("x", 10000), 9999), R], None)
        self.check(9999, [("take_old", ("x", 10000), 9999), R], (0, "nothing"))


def open_frame(code):
    return [one[0] for one in code].count("frame") > [one[0] for one in code].count("unframe")


class Held(unittest.TestCase):
    def test_each_place(self):
        code = [("frame", 3), ("take_new", Y1, 1), ("take_struct", "f", 3, 2), ("arg_new", X3), ("arg_local", X1), ("arg_new", Y2), ("keep_entry", ("x", 4)), ("give_new", ("y", 3), 1),
                ("give_old", ("x", 4), 2), ("give_struct", "g", 2, 3), ("arg_local", ("y", 3)), ("arg_skip", 1), ("call", (5, 3), 3), ("give_unsafe", ("y", 3), 2), ("give_old", ("y", 3), 3),
                ("give_new", ("x", 4), 1), UNFRAME, ("give_const", 1, 5), ("jump", ("q", 2))]
        start = {X1: "given", X2: "given"}
        inner = {X1: "given", X2: "given", Y1: "given", X3: "heap"}
        called = {Y1: "given", Y2: "heap", ("y", 3): ("slot", 3)}
        rows = [(None, start), (3, start), (3, {**start, Y1: "given"}), (3, {**start, Y1: "given"}), (3, inner), (3, {**inner, X1: "old"}), (3, {**inner, X1: "old", Y2: "heap"})]
        kept = {**inner, X1: "old", Y2: "heap", ("x", 4): "level"}
        rows += [(3, kept), (3, {**kept, X1: ("slot", 3), ("y", 3): ("slot", 3)})]
        kept = {**kept, X1: ("slot", 3), ("y", 3): ("slot", 3), X2: "level"}
        without = {place: what for place, what in kept.items() if place != X3}
        rows += [(3, kept), (3, without), (3, without), (3, kept), (3, called), (3, {**called, X2: "old"}), (3, {**called, X2: "old", X3: ("slot", 3)})]
        last = {X2: "old", X3: ("slot", 3), X1: "heap", ("x", 4): "heap"}
        rows += [(3, {**called, **last}), (None, {**last, X3: "lost"}), (None, {**last, X3: "lost", ("x", 5): "heap"})]
        self.assertEqual(len(rows), len(code))
        for place, row in enumerate(rows):
            with self.subTest(place=place):
                self.assertEqual(held(2, code, place), row)
        self.assertIsNone(judge(2, code))

    def test_trimmed_slots(self):
        code = [("frame", 4), ("give_const", 1, 1), ("take_new", ("y", 4), 1), ("take_new", Y1, 1), ("call", ("q", 1), 2), UNFRAME, R]
        self.assertEqual([held(0, code, place) for place in (4, 5, 6)], [(4, {X1: "heap", ("y", 4): "heap", Y1: "heap"}), (2, {Y1: "heap"}), (None, {})])

    def test_dicts_are_new(self):
        code = [("frame", 0), UNFRAME, R]
        held(1, code, 1)[1].clear()
        self.assertEqual(held(1, code, 1), (0, {X1: "given"}))

    def test_behind_a_fault(self):
        code = [("give_const", 1, 1), ("take_const", 1, 2), ("give_const", 1, 2), R]
        self.assertEqual((held(0, code, 0), held(0, code, 1)), ((None, {}), (None, {X1: "heap"})))
        for place in (2, 3):
            with self.assertRaises(NoCode) as caught:
                held(0, code, place)
            self.assertEqual(caught.exception.why, "fault")
        self.assertEqual(held(2, code, 3), (None, {X1: "heap", X2: "heap"}))


class Trims(unittest.TestCase):
    def test_least_trims(self):
        for code, found in (([R], []), ([("frame", 5), ("call", ("p", 0), 5), UNFRAME, R], [0]),
                            ([("frame", 5), ("take_new", ("y", 5), 1), ("call", ("p", 0), 5), ("give_old", Y2, 1), ("call", ("p", 1), 5), ("give_unsafe", Y1, 1), ("call", ("p", 1), 0), UNFRAME, R], [2, 1, 0]),
                            ([("frame", 5), ("call", ("p", 0), 5), ("give_struct", "f", 2, 1), ("arg_new", ("y", 4)), ("arg_local", ("y", 3)), ("call", ("p", 0), 0), ("cut_to", ("y", 7)), R], [7, 7]),
                            ([("call", ("p", 0), 5), ("give_old", ("x", 9), 8), P], [0])):
            self.assertEqual(least_trims(code), found)


class Errors(unittest.TestCase):
    def raised(self, error, why, call, *args):
        with self.subTest(call=call.__name__, args=str(args)[:80]):
            with self.assertRaises(error) as caught:
                call(*args)
            self.assertEqual(caught.exception.why, why)

    def test_errors_in_their_order(self):
        for wrong in odd_values() + ["1", -1, (1,), [1], {}]:
            self.raised(BadValue, "arity", judge, wrong, [R])
            self.raised(BadValue, "arity", judge, wrong, None)
            self.raised(BadValue, "arity", held, wrong, [R], 0)
            self.raised(BadValue, "arity", held, wrong, None, None)
            self.raised(BadValue, "place", held, 0, [R], wrong)
        for wrong in odd_values() + ["", 0, (), [], (R,), [R, R], [("frame", 0)], [("arg_skip", 1), R], [("frame", True), R]]:
            self.raised(NoCode, "form", judge, 0, wrong)
            self.raised(NoCode, "form", held, 0, wrong, 0)
            self.raised(NoCode, "form", held, 0, wrong, None)
            self.raised(NoCode, "form", least_trims, wrong)
        for place in (1, 2, 10 ** 30):
            self.raised(BadValue, "place", held, 0, [R], place)
        # The place ahead of a fault.
        self.raised(BadValue, "place", held, 0, [UNFRAME, R], 2)
        self.raised(NoCode, "fault", held, 0, [UNFRAME, R], 1)
        self.assertEqual(held(0, [UNFRAME, R], 0), (None, {}))


class Compiled(unittest.TestCase):
    def test_compiled_code_has_no_fault(self):
        rng = chance(12)
        for _ in range(1200):
            for flat in [some_flat(rng)] + flats_of_clauses(rng):
                code = compiled(flat)
                self.assertIsNone(judge(len(flat[1]), code))
                found = [one[2] for one in code if one[0] == "call"]
                self.assertEqual(least_trims(code), found)
                self.assertEqual(trims(flat)[:len(found)], found)

    def test_one_slot_less_is_a_fault(self):
        rng = chance(13)
        tried = 0
        for _ in range(600):
            flat = some_flat(rng)
            code = compiled(flat)
            for at, one in enumerate(code):
                if one[0] == "call" and one[2] > 0:
                    tried += 1
                    self.assertIsNotNone(judge(len(flat[1]), code[:at] + [(one[0], one[1], one[2] - 1)] + code[at + 1:]))
                if one[0] == "frame" and one[1] > 0:
                    self.assertIsNotNone(judge(len(flat[1]), [("frame", one[1] - 1)] + code[1:]))
        self.assertGreater(tried, 100)


if __name__ == "__main__":
    unittest.main()
