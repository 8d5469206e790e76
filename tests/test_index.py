"""[11.1] to [11.4]: index keys, rows, and the index as instructions."""

import unittest

from hornmill.errors import BadTerm, NoCode, NoFlat, NoKey
from hornmill.index import Index, fitting, index_key, rows_of, switches, tried
from tests.support import PERCENT, chance, odd_terms, odd_values, slow_replaced, slow_unify, slow_variables

A, B = (0,), (1,)
GREAT = 10 ** 300 - 1
CON, INT, FUN = ("con", "a"), ("int", 3), ("fun", "f", 2)


def fact(*args, name="p"):
    return ((name, len(args)), args, ())


def facts(*firsts):
    return [fact(one) for one in firsts]


def no_keys():
    """Values that are no index keys."""
    return [value for value in odd_values() if value is not None] + [
        "a", 0, (), [], ("con",), ("con", 5), ("con", "a" * 41), ("con", PERCENT), ("con", "a", 0), ["con", "a"], ("con", ["a"]), ("con", None), ("int", "3"), ("int", True),
        ("int", 1.0), ("int", GREAT + 1), ("int", -GREAT - 1), ("int",), ("int", 3, 0), ("fun", "f"), ("fun", "f", 0), ("fun", "f", 9), ("fun", "f", True), ("fun", "f", "1"),
        ("fun", 5, 1), ("fun", "a" * 41, 1), ("fun", "f", 1, 2), ["fun", "f", 1], ("fun", ["f"], 1), ("fun", "f", [1]), ("Con", "a"), ("var", 0), ("str", ("h", 0)), (None, "a"),
        (["con"], "a"), ({}, 1), ("", "a"), ("f", 2), (True, 1), ("con", ("f", "a")), ("fun", "f", None)]


class Keys(unittest.TestCase):
    def test_index_keys(self):
        for term, key in (((0,), None), ((10 ** 30,), None), ("a", CON), ("", ("con", "")), ("[]", ("con", "[]")), (3, INT), (-GREAT, ("int", -GREAT)), (0, ("int", 0)),
                          (("f", "a", A), FUN), (("f", "a"), ("fun", "f", 1)), ((".", A, "[]"), ("fun", ".", 2)), (("f",) + ("a",) * 8, ("fun", "f", 8))):
            self.assertEqual(index_key(term), key)

    def test_no_terms(self):
        for wrong in odd_terms():
            with self.assertRaises(BadTerm) as caught:
                index_key(wrong)
            self.assertIs(caught.exception.term, wrong)


class Rows(unittest.TestCase):
    def test_example(self):
        clauses = facts("a", A, ("f", A))
        self.assertEqual([Index(clauses).row(CON), Index(clauses).row(INT), Index(clauses).known(), switches(clauses)],
                         [[0, 1], [1], [CON, ("fun", "f", 1)],
                          [("on_kind", 3, 1, 6, 2), ("on_con", (("a", 7),), 6), ("on_fun", ((("f", 1), 9),), 6), ("try", 0), ("retry", 1), ("trust", 2), ("only", 1),
                           ("try", 0), ("trust", 1), ("try", 1), ("trust", 2)]])

    def check(self, clauses, known, rest, rows):
        index = Index(clauses)
        self.assertEqual((index.known(), index.rest()), (known, rest))
        for key, row in rows.items():
            self.assertEqual(index.row(key), row)

    def test_rows(self):
        self.check(facts(1, "1", ("f", A), ("f", A, B), A, 1, ("f", "b"), "a"), [("int", 1), ("con", "1"), ("fun", "f", 1), FUN, CON], [4],
                   {None: list(range(8)), ("int", 1): [0, 4, 5], ("con", "1"): [1, 4], ("fun", "f", 1): [2, 4, 6], FUN: [3, 4], CON: [4, 7], ("fun", "f", 3): [4],
                    ("con", "f"): [4], ("int", 2): [4], ("fun", "g", 1): [4]})
        self.check(facts("a", "b", "a"), [CON, ("con", "b")], [], {None: [0, 1, 2], CON: [0, 2], ("con", "b"): [1], ("con", "c"): [], INT: [], FUN: []})
        self.check(facts(A, B), [], [0, 1], {None: [0, 1], CON: [0, 1], INT: [0, 1], FUN: [0, 1]})
        self.check(facts("a"), [CON], [], {None: [0], CON: [0], INT: []})

    def test_without_clauses_or_arguments(self):
        for none in ([], ()):
            self.check(none, [], [], {None: [], CON: [], INT: [], FUN: []})
        self.check([fact(), fact(), fact()], [], [0, 1, 2], {None: [0, 1, 2], CON: [0, 1, 2], INT: [0, 1, 2], FUN: [0, 1, 2]})
        self.check(((("p", 0), (), (("call", ("q", 0), ()),)),), [], [0], {None: [0], CON: [0]})

    def test_the_first_argument_counts_alone(self):
        self.check([fact(A, "a"), fact("b", A), ((4, 2), ("a", "b"), ())][:2], [("con", "b")], [0], {CON: [0], ("con", "b"): [0, 1]})

    def test_lists_are_new(self):
        clauses = facts("a", A)
        index = Index(clauses)
        for call in (lambda: index.row(CON), index.known, index.rest, lambda: switches(clauses), lambda: tried(clauses, ["a"]), lambda: fitting(clauses, ["a"])):
            before = call()
            call().clear()
            call().append("spoilt")
            self.assertEqual(call(), before)
        clauses.append("spoilt")
        self.assertEqual(index.row(None), [0, 1])

    def test_wrong_keys(self):
        for index in (Index(facts("a")), Index([]), Index([fact()])):
            for wrong in no_keys():
                with self.assertRaises(NoKey) as caught:
                    index.row(wrong)
                self.assertIs(caught.exception.key, wrong)


class WrongClauses(unittest.TestCase):
    def wrong(self, why, clauses):
        for call in (Index, lambda one: tried(one, None), lambda one: fitting(one, None), switches):
            with self.assertRaises(NoFlat) as caught:
                call(clauses)
            self.assertEqual(caught.exception.why, why)

    def test_words(self):
        right, entry, level = fact("a"), (("p", 1), (A,), (("call", ("q", 0), ()), ("entry", B))), (("p", 1), (A,), (("cut", A),))
        for wrong in odd_values() + ["", "p", 5]:
            if not isinstance(wrong, (list, tuple)):
                self.wrong("form", wrong)
            self.wrong("form", [wrong])
            self.wrong("form", (right, wrong, entry))
        self.wrong("form", right)
        self.wrong("entry", [entry])
        self.wrong("level", [right, level])
        # The word of the first entry that is none; unlike keys come last.
        self.wrong("level", [right, level, entry, None])
        self.wrong("entry", [entry, level])
        self.wrong("level", [right, fact(), level])
        self.wrong("form", [right, fact("a", "b"), 7])

    def test_keys(self):
        self.wrong("key", [fact("a"), fact()])
        self.wrong("key", [fact("a"), fact("a", name="q")])
        self.wrong("key", (fact("a"), fact("b"), fact("a", name=5)))
        self.wrong("key", [fact(name=5), fact(name="5")])
        Index([fact("a", name=5), fact("b", name=5)])


class Calls(unittest.TestCase):
    def test_tried_and_fitting(self):
        clauses = [fact("a", A), fact(A, A), fact(("f", A), A), fact(("f", "b"), "c"), fact(3, B), fact(B, 4)]
        for args, row, fit in ((("a", "b"), [0, 1, 5], [0]), (["a", A], [0, 1, 5], [0, 1, 5]), ([A, A], [0, 1, 2, 3, 4, 5], [0, 1, 4, 5]), ([A, B], [0, 1, 2, 3, 4, 5], [0, 1, 2, 3, 4, 5]),
                               ([("f", "b"), "b"], [1, 2, 3, 5], [2]), ([("f", (7,)), "c"], [1, 2, 3, 5], [2, 3]), ([3, 4], [1, 4, 5], [4, 5]), ([("f", 1, 2), A], [1, 5], [1, 5]),
                               (["c", "c"], [1, 5], [1])):
            with self.subTest(args=args):
                self.assertEqual((tried(clauses, args), fitting(clauses, args)), (row, fit))

    def test_variables_of_both_sides_are_unlike(self):
        self.assertEqual(fitting([fact(A, ("f", A))], [A, A]), [])
        self.assertEqual(fitting([fact(A, B)], [B, ("f", B)]), [0])
        self.assertEqual(fitting([fact(("f", A))], [A]), [0])
        self.assertEqual(fitting([fact(A, ("f", A))], [("f", B), A]), [0])

    def test_without_arguments_or_clauses(self):
        self.assertEqual((tried([fact(), fact()], []), fitting([fact(), fact()], ())), ([0, 1], [0, 1]))
        for args in ([], (), ["a"], ("a",) * 20, [A, ("f", A)]):
            self.assertEqual((tried([], args), fitting((), args)), ([], []))

    def test_wrong_arguments(self):
        for call in (tried, fitting):
            for clauses in ([], facts("a"), [fact("a", "b")]):
                for wrong in [one for one in odd_values() if not isinstance(one, (list, tuple))] + ["a", "ab", 0, [None], ["a", True], ("a", ["b"]), [10 ** 300], [("f",)]]:
                    with self.assertRaises(BadTerm) as caught:
                        call(clauses, wrong)
                    self.assertIs(caught.exception.term, wrong)
            for wrong in ([], (), ["a", "b"], ("a", "b", "c")):
                with self.assertRaises(BadTerm) as caught:
                    call(facts("a"), wrong)
                self.assertIs(caught.exception.term, wrong)
            self.assertRaises(BadTerm, call, [fact()], ["a"])
            self.assertRaises(NoFlat, call, None, None)

    def test_great_terms(self):
        deep = A
        for _ in range(299):
            deep = ("f", deep)
        self.assertEqual(fitting(facts(deep, A, "a", ("f", ("g", A))), [deep]), [0, 1])


class Switches(unittest.TestCase):
    def check(self, clauses, instructions, back):
        with self.subTest(clauses=str(clauses)[:100]):
            self.assertEqual(switches(clauses), instructions)
            self.assertEqual(rows_of(instructions), back)

    def test_rows_alone(self):
        self.check([], [], ([], [], []))
        self.check((), [], ([], [], []))
        self.check([fact()], [("only", 0)], ([0], [], [0]))
        self.check(facts(A), [("only", 0)], ([0], [], [0]))
        self.check([fact(), fact()], [("try", 0), ("trust", 1)], ([0, 1], [], [0, 1]))
        self.check(facts(A, A, A, A), [("try", 0), ("retry", 1), ("retry", 2), ("trust", 3)], ([0, 1, 2, 3], [], [0, 1, 2, 3]))

    def test_one_sort(self):
        self.check(facts("a"), [("on_kind", 2, 1, None, None), ("on_con", (("a", 2),), None), ("only", 0)], ([0], [(CON, [0])], []))
        self.check(facts(3, 3), [("on_kind", 2, None, 1, None), ("on_int", ((3, 2),), None), ("try", 0), ("trust", 1)], ([0, 1], [(INT, [0, 1])], []))
        self.check(facts(A, ("f", A, B)), [("on_kind", 2, 4, 4, 1), ("on_fun", ((("f", 2), 2),), 4), ("try", 0), ("trust", 1), ("only", 0)], ([0, 1], [(FUN, [0, 1])], [0]))
        self.check(facts("b", "a", "b"), [("on_kind", 2, 1, None, None), ("on_con", (("b", 5), ("a", 7)), None), ("try", 0), ("retry", 1), ("trust", 2), ("try", 0), ("trust", 2), ("only", 1)],
                   ([0, 1, 2], [(("con", "b"), [0, 2]), (CON, [1])], []))

    def test_all_sorts(self):
        # The tables stand as con, int, fun; known() has the order within them; rows stand in the order in which they are first named.
        self.check(facts(("f", A, B), 3, "a", A, -1),
                   [("on_kind", 4, 1, 2, 3), ("on_con", (("a", 9),), 11), ("on_int", ((3, 12), (-1, 14)), 11), ("on_fun", ((("f", 2), 16),), 11),
                    ("try", 0), ("retry", 1), ("retry", 2), ("retry", 3), ("trust", 4), ("try", 2), ("trust", 3), ("only", 3), ("try", 1), ("trust", 3), ("try", 3), ("trust", 4),
                    ("try", 0), ("trust", 3)],
                   ([0, 1, 2, 3, 4], [(CON, [2, 3]), (INT, [1, 3]), (("int", -1), [3, 4]), (FUN, [0, 3])], [3]))
        self.check(facts("a", 3, ("f", A, B)),
                   [("on_kind", 4, 1, 2, 3), ("on_con", (("a", 7),), None), ("on_int", ((3, 8),), None), ("on_fun", ((("f", 2), 9),), None), ("try", 0), ("retry", 1), ("trust", 2),
                    ("only", 0), ("only", 1), ("only", 2)], ([0, 1, 2], [(CON, [0]), (INT, [1]), (FUN, [2])], []))

    def test_lists_are_new(self):
        told = switches(facts("a", A))
        found = rows_of(told)
        for row in (found[0], found[1][0][1], found[1], found[2]):
            row.append("spoilt")
        self.assertEqual(rows_of(told), ([0, 1], [(CON, [0, 1])], [1]))
        found = rows_of([("only", 0)])
        found[0].append("spoilt")
        self.assertEqual(found[2], [0])


class WrongSwitches(unittest.TestCase):
    def wrong(self, *things):
        for thing in things:
            with self.subTest(str(thing)[:150]):
                with self.assertRaises(NoCode) as caught:
                    rows_of(thing)
                self.assertEqual(caught.exception.why, "form")

    def test_no_lists_of_instructions(self):
        self.wrong(*odd_values(), "", "only", 0, (), (("only", 0),), {("only", 0): 1}, [None], [["only", 0]], [()], ["only"], [("only",)], [("only", 0, 0)], [("only", True)],
                   [("only", -1)], [("only", "0")], [("only", None)], [("only", False)], [("only", 0.0)], [(None, 0)], [([], 0)], [("once", 0)], [("jump", 0)], [("only", [0])])

    def test_rows_that_are_none(self):
        self.wrong([("only", 1)], [("try", 0)], [("trust", 0)], [("retry", 0)], [("try", 0), ("retry", 1)], [("try", 0), ("only", 1)], [("try", 0), ("trust", 0)],
                   [("try", 1), ("trust", 0)], [("try", 1), ("trust", 2)], [("only", 0), ("only", 0)], [("only", 0), ("only", 1)], [("try", 0), ("trust", 1), ("only", 0)],
                   [("try", 0), ("try", 1), ("trust", 2)], [("try", 0), ("retry", 1), ("retry", 1), ("trust", 2)], [("try", False), ("trust", True)])

    def near(self, at, *changed):
        """Check lists that are near to one that is right."""
        right = switches(facts("a", A, ("f", A)))
        for one in changed:
            wrong = list(right)
            wrong[at] = one
            self.wrong(wrong)

    def test_near_to_switches(self):
        right = switches(facts("a", A, ("f", A)))
        self.near(0, ("on_kind", 3, 1, 6, None), ("on_kind", 3, 1, 6, 9), ("on_kind", 7, 1, 6, 2), ("on_kind", None, 1, 6, 2), ("on_kind", 3, 2, 6, 1), ("on_kind", 3, 6, 6, 2),
                  ("on_kind", 3, 1, 7, 2), ("on_kind", 3, 1, 6), ("on_kind", 3, 1, 6, 2, 2), ("on_kind", 3, True, 6, 2), ("on_kind", 3, -1, 6, 2), ("on_kind", 3, 1, 6, "2"),
                  ("on_kind", 100, 1, 6, 2), ("on_kind", 0, 1, 6, 2), ["on_kind", 3, 1, 6, 2], ("on_con", (("a", 7),), 6))
        self.near(1, ("on_con", (("a", 7),), None), ("on_con", (("a", 7),), 7), ("on_con", (("a", 6),), 6), ("on_con", (("a", 9),), 6), ("on_con", (("a", 3),), 6), ("on_con", (), 6),
                  ("on_con", (("a", 7), ("b", 7)), 6), ("on_con", (("a", 7), ("a", 7)), 6), ("on_con", [("a", 7)], 6), ("on_con", (["a", 7],), 6), ("on_con", ((3, 7),), 6),
                  ("on_con", (("a", None),), 6), ("on_con", (("a", True),), 6), ("on_con", (("a" * 41, 7),), 6), ("on_con", (("a", 7),)), ("on_con", (("a", 7, 7),), 6), ("on_con", ("a7",), 6),
                  ("on_con", (((1,), 7),), 6), ("on_int", ((1, 7),), 6), ("on_int", (("a", 7),), 6), ("on_con", None, 6), ("on_con", (("a", 70),), 6))
        self.near(2, ("on_fun", ((("f", 0), 9),), 6), ("on_fun", ((("f", 9), 9),), 6), ("on_fun", ((("f", True), 9),), 6), ("on_fun", (("f", 9),), 6), ("on_fun", ((("f", 1), 7),), 6),
                  ("on_fun", ((["f", 1], 9),), 6), ("on_fun", ((("f", 1, 1), 9),), 6), ("on_con", (("f", 9),), 6), ("on_fun", (((1, 1), 9),), 6), ("on_fun", ((("f", 1), 9),), True))
        self.near(3, ("only", 0), ("retry", 0), ("trust", 0), ("try", 1), ("try", True))
        self.near(4, ("trust", 1), ("try", 1), ("retry", 2), ("only", 1))
        self.near(5, ("retry", 2), ("trust", 1), ("only", 2), ("trust", 3))
        self.near(6, ("only", 0), ("only", 2), ("try", 1))
        self.near(8, ("retry", 1), ("trust", 2))
        for at in range(len(right)):
            self.wrong(right[:at] + right[at + 1:], right[:at] + [right[at]] + right[at:])
            if at > 0:
                self.wrong(right[:at - 1] + [right[at], right[at - 1]] + right[at + 1:])
        self.wrong(right[:-1], right + [("only", 1)], right + [("try", 0), ("trust", 1)], [right[0], right[2], right[1]] + right[3:], tuple(right), [right])

    def test_the_order_of_tables_and_of_their_entries(self):
        right = switches(facts("b", "a", 3))
        self.assertEqual(rows_of(right)[1], [(("con", "b"), [0]), (CON, [1]), (INT, [2])])
        kind, con, number = right[:3]
        self.wrong([kind, (con[0], con[1][::-1], con[2]), number] + right[3:])
        self.wrong([(kind[0], kind[1], 2, 1, kind[4]), number, con] + right[3:])
        # Numbers that are equal for Python.
        wrong = list(right)
        wrong[wrong.index(("only", 1))] = ("only", True)
        self.wrong(wrong)
        self.assertEqual(rows_of(switches(facts(1)))[1], [(("int", 1), [0])])
        self.wrong([("on_kind", 2, None, 1, None), ("on_int", ((True, 2),), None), ("only", 0)], [("on_kind", 2, None, 1, None), ("on_int", ((1.0, 2),), None), ("only", 0)],
                   [("on_kind", 2, None, 1, None), ("on_int", ((10 ** 300, 2),), None), ("only", 0)])


def some_first(rng):
    return rng.choice([A, A, "a", "b", "c", 0, 1, ("f", A), ("f", A, B), ("g", "a")])


class ByChance(unittest.TestCase):
    def test_all_together(self):
        rng = chance(6)
        for _ in range(1500):
            clauses = [fact(some_first(rng), rng.choice(["a", B, A])) for _ in range(rng.choice([0, 1, 2, 3, 5, 9]))]
            index = Index(clauses)
            told = switches(clauses)
            rows = {key: index.row(key) for key in index.known()}
            sorts = ("con", "int", "fun")
            ordered = [key for sort in sorts for key in index.known() if key[0] == sort]
            self.assertEqual(rows_of(told), (index.row(None), [(key, rows[key]) for key in ordered], index.rest()))
            for key in index.known() + [None, CON, INT, FUN, ("con", "z")]:
                row = [at for at, one in enumerate(clauses) if key is None or index_key(one[1][0]) in (None, key)]
                self.assertEqual(index.row(key), row)
            args = [some_first(rng), rng.choice(["a", A, B])]
            if clauses:
                self.assertEqual(tried(clauses, args), index.row(index_key(args[0])))
                fit = [at for at, one in enumerate(clauses) if slow_unify(list(zip(args, apart(one[1])))) is not None]
                self.assertEqual(fitting(clauses, args), fit)
                self.assertLessEqual(set(fit), set(tried(clauses, args)))

    def test_changed_lists(self):
        """Each list is that of some clauses, or none: what is read back is written as it was."""
        rng = chance(9)
        read = 0
        for _ in range(4000):
            told = switches([fact(some_first(rng)) for _ in range(rng.randint(1, 5))])
            at = rng.randrange(len(told))
            row = list(told[at])
            place = rng.randrange(1, len(row))
            row[place] = rng.choice([None, 0, 1, 2, 3, 4, 5, 6]) if not isinstance(row[place], tuple) else row[place][::-1]
            told[at] = tuple(row)
            try:
                found = rows_of(told)
            except NoCode:
                continue
            read += 1
            keys = [None] * len(found[0])
            for key, row in found[1]:
                for k in row:
                    keys[k] = key if k not in found[2] else None
            terms = [A if key is None else key[1] if len(key) == 2 else (key[1],) + ("a",) * key[2] for key in keys]
            self.assertEqual(switches(facts(*terms)), told)
        self.assertGreater(read, 100)


def apart(args):
    table = {k: (100 + k,) for k in slow_variables(("", "", *args))}
    return [slow_replaced(term, table) for term in args]


if __name__ == "__main__":
    unittest.main()
