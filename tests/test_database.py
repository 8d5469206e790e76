"""[7.3], [7.4]: the builtins of the database; [2.10]: those that write."""

import unittest

from hornmill.builtins import builtin_row
from hornmill.world import World
from tests.asking import INST, NONE, Asking, domain_error, representation_error, type_error
from tests.support import list_of

A, B, C, D = [(k,) for k in range(4)]
FIXED = [("is", 1, 2), "fail", "true", "!", (",", "a", "b"), ("\\+", "a"), ("call", "a"), ("call",) + ("a",) * 8, ("catch", 1, 2, 3),
         ("findall", 1, 2, 3, 4), ("bagof", 1, 2, 3), ("setof", 1, 2, 3), ("aggregate_all", 1, 2, 3), ("assertz", 1), "nl", ("=", 1, 2)]
FREE = [("is", 1), "a", "fails", ("fail", 1), ("bagof", 1, 2), ("findall", 1, 2), ("call",), "call", (":-", 1), (":-", 1, 2, 3), "", ("^", 1, 2)]


def indicator(head):
    return ("/", head[0], len(head) - 1) if isinstance(head, tuple) else ("/", head, 0)


def permission_error(action, kind, culprit):
    return ("permission_error", action, kind, culprit)


class Errors(Asking):
    """All of them without a world: they come ahead of what is done."""

    def test_assert(self):
        for name in ("asserta", "assertz"):
            key = (name, 1)
            self.throws(INST, key, A)
            self.throws(INST, key, (":-", A, "b"))
            self.throws(INST, key, (":-", A, 1))
            for head in (5, -1):
                self.throws(type_error("callable", head), key, head)
                self.throws(type_error("callable", head), key, (":-", head, "b"))
                self.throws(type_error("callable", head), key, (":-", head, 1))
            for body in (1, (",", "a", 1), (",", A, ("\\+", 1))):
                self.throws(type_error("callable", body), key, (":-", "h", body))
                self.throws(type_error("callable", body), key, (":-", ("is", 1, 2), body))
            for head in FIXED:
                self.throws(permission_error("modify", "static_procedure", indicator(head)), key, head)
                self.throws(permission_error("modify", "static_procedure", indicator(head)), key, (":-", head, A))

    def test_clause(self):
        key = ("clause", 2)
        self.throws(INST, key, A, B)
        self.throws(INST, key, A, 5)
        self.throws(type_error("callable", 5), key, 5, 6)
        self.throws(type_error("callable", 6), key, "a", 6)
        self.throws(type_error("callable", 6), key, ("is", A, B), 6)
        for head in FIXED:
            self.throws(permission_error("access", "private_procedure", indicator(head)), key, head, A)
            self.throws(permission_error("access", "private_procedure", indicator(head)), key, head, "true")

    def test_retract(self):
        key = ("retract", 1)
        self.throws(INST, key, A)
        self.throws(INST, key, (":-", A, B))
        self.throws(INST, key, (":-", A, 5))
        self.throws(type_error("callable", 5), key, 5)
        self.throws(type_error("callable", 5), key, (":-", 5, 6))
        for head in FIXED:
            self.throws(permission_error("modify", "static_procedure", indicator(head)), key, head)
            self.throws(permission_error("modify", "static_procedure", indicator(head)), key, (":-", head, 5))

    def test_retractall(self):
        key = ("retractall", 1)
        self.throws(INST, key, A)
        self.throws(type_error("callable", 5), key, 5)
        for head in FIXED:
            self.throws(permission_error("modify", "static_procedure", indicator(head)), key, head)

    def test_abolish(self):
        key = ("abolish", 1)
        self.throws(INST, key, A)
        self.throws(INST, key, ("/", A, B))
        self.throws(INST, key, ("/", 5, A))
        self.throws(INST, key, ("/", A, "x"))
        for wrong in ("p", 5, ("/", "p"), ("/", "p", 1, 2), ("-", "p", 1), (":-", "p", 1)):
            self.throws(type_error("predicate_indicator", wrong), key, wrong)
        for wrong in (5, ("f", "a")):
            self.throws(type_error("atom", wrong), key, ("/", wrong, "x"))
            self.throws(type_error("atom", wrong), key, ("/", wrong, -1))
        for wrong in ("x", ("f", A)):
            self.throws(type_error("integer", wrong), key, ("/", "p", wrong))
        self.throws(domain_error("not_less_than_zero", -1), key, ("/", "p", -1))
        self.throws(representation_error("max_arity"), key, ("/", "p", 9))
        self.throws(representation_error("max_arity"), key, ("/", "call", 10 ** 299))
        for head in FIXED:
            told = indicator(head)
            self.throws(permission_error("modify", "static_procedure", told), key, told)


class Rows(Asking):
    def setUp(self):
        self.world = World([("p", 1), (":-", ("p", A), ("q", A, B)), ("p", ("f", A)), ("p", "a")])

    def test_predicates_near_to_fixed_ones_can_be_changed(self):
        for head in FREE:
            if head == ("call",):
                continue
            self.passes(("assertz", 1), head)
            told = indicator(head)
            self.assertEqual(self.world.clauses(told[1:]), [(":-", head, "true")])
            self.passes(("retractall", 1), head)
            self.assertEqual(self.world.clauses(told[1:]), [])
            self.passes(("abolish", 1), told)
            self.assertNotIn(told[1:], self.world.known())

    def test_assert(self):
        self.changing = ("assertz", 1), ("asserta", 1)
        self.told([[]], ("assertz", 1), ("p", (7,)))
        self.told([[]], ("asserta", 1), (":-", ("p", (5,)), (",", (3,), "!")))
        self.told([[]], ("asserta", 1), ("r", (4,), (4,)))
        self.assertEqual(self.world.clauses(("p", 1)), [
            (":-", ("p", A), (",", ("call", B), "!")), (":-", ("p", 1), "true"), (":-", ("p", A), ("q", A, B)),
            (":-", ("p", ("f", A)), "true"), (":-", ("p", "a"), "true"), (":-", ("p", A), "true")])
        self.assertEqual(self.world.clauses(("r", 2)), [(":-", ("r", A, A), "true")])

    def test_clause(self):
        key = ("clause", 2)
        self.told([[(A, 1), (B, "true")], [(A, C), (B, ("q", C, D))], [(A, ("f", C)), (B, "true")], [(A, "a"), (B, "true")]],
                  key, ("p", A), B)
        self.told([[(A, "true")], [(B, 1), (A, ("q", B, C))]], key, ("p", 1), A)
        self.told([[(A, 1)], [(A, ("f", B))], [(A, "a")]], key, ("p", A), "true")
        self.told([[]], key, ("p", "a"), "true")
        self.fails(key, ("p", "b"), "true")
        self.fails(key, ("p", A), "no body")
        self.fails(key, ("p", A, B), C)
        self.fails(key, "unknown", A)

    def test_clause_tells_more_just_if_another_one_fits(self):
        args = (("p", "a"), (0,))
        word, pairs, more = builtin_row(self.world, ("clause", 2), args, 0)
        self.assertEqual(word, "row")
        self.assertIsNotNone(more)
        # Told at the time when the row is taken: what is erased meanwhile is passed over.
        self.assertEqual(builtin_row(self.world, ("clause", 2), args, more)[2], None)
        builtin_row(self.world, ("retract", 1), [("p", "a")], 0)
        self.assertEqual(builtin_row(self.world, ("clause", 2), args, more), NONE)
        self.assertIsNone(builtin_row(self.world, ("clause", 2), args, 0)[2])
        # What is added meanwhile is not seen.
        builtin_row(self.world, ("assertz", 1), [("p", "a")], 0)
        self.assertEqual(builtin_row(self.world, ("clause", 2), args, more), NONE)
        self.assertIsNotNone(builtin_row(self.world, ("clause", 2), args, 0)[2])

    def test_a_clause_that_is_erased_amid_the_rows(self):
        args = (("p", (0,)), (1,))
        k = builtin_row(self.world, ("clause", 2), args, 0)[2]
        builtin_row(self.world, ("retract", 1), [(":-", ("p", (0,)), ("q", (1,), (2,)))], 0)
        builtin_row(self.world, ("retract", 1), [("p", "a")], 0)
        word, pairs, more = builtin_row(self.world, ("clause", 2), args, k)
        self.assertEqual((word, pairs[0][1], more), ("row", ("p", ("f", (2,))), None))

    def test_retract(self):
        args = [("p", (0,))]
        word, pairs, k = builtin_row(self.world, ("retract", 1), args, 0)
        self.assertEqual((word, pairs), ("row", [(("p", A), ("p", 1)), ("true", "true")]))
        self.assertEqual(len(self.world.clauses(("p", 1))), 3)
        # The rule has another body, so it is no row.
        word, pairs, k = builtin_row(self.world, ("retract", 1), args, k)
        self.assertEqual(pairs[0][1], ("p", ("f", (1,))))
        word, pairs, k = builtin_row(self.world, ("retract", 1), args, k)
        self.assertEqual((word, pairs[0][1], k), ("row", ("p", "a"), None))
        self.assertEqual(self.world.clauses(("p", 1)), [(":-", ("p", A), ("q", A, B))])
        self.fails(("retract", 1), ("p", A))
        self.assertEqual(self.world.known(), [("p", 1)])
        self.assertEqual(builtin_row(self.world, ("retract", 1), [(":-", ("p", (0,)), (1,))], 0),
                         ("row", [(("p", (0,)), ("p", (2,))), ((1,), ("q", (2,), (3,)))], None))
        self.assertEqual(self.world.clauses(("p", 1)), [])
        self.assertEqual(self.world.known(), [("p", 1)])
        self.fails(("retract", 1), "unknown")
        self.assertEqual(self.world.known(), [("p", 1)])

    def test_retract_passes_over_what_is_erased(self):
        args = [("p", (0,))]
        k = builtin_row(self.world, ("retract", 1), args, 0)[2]
        builtin_row(self.world, ("retractall", 1), [("p", (0,))], 0)
        self.assertEqual(builtin_row(self.world, ("retract", 1), args, k), NONE)

    def test_an_error_or_a_failure_changes_nothing(self):
        before = self.world.clauses(("p", 1))
        for args in ([(":-", ("p", 1), 5)], [("p", "zz")], [5]):
            builtin_row(self.world, ("retract", 1), args, 0)
        self.assertEqual(self.world.clauses(("p", 1)), before)

    def test_retractall(self):
        self.passes(("retractall", 1), ("p", ("f", "x")))
        self.assertEqual(self.world.clauses(("p", 1)), [(":-", ("p", 1), "true"), (":-", ("p", "a"), "true")])
        self.passes(("retractall", 1), ("p", A))
        self.assertEqual(self.world.clauses(("p", 1)), [])
        self.passes(("retractall", 1), ("new", A, B))
        self.assertEqual(self.world.known(), [("new", 2), ("p", 1)])

    def test_abolish(self):
        self.passes(("abolish", 1), ("/", "p", 1))
        self.assertEqual((self.world.clauses(("p", 1)), self.world.known()), ([], []))
        self.passes(("abolish", 1), ("/", "unknown", 8))
        self.passes(("abolish", 1), ("/", "p", 0))
        self.assertEqual(self.world.known(), [])


class Output(Asking):
    def setUp(self):
        self.world = World()

    def written(self, key, *args):
        before = self.world.output()
        self.assertEqual(builtin_row(self.world, key, args, 0), ("row", [], None))
        self.assertTrue(self.world.output().startswith(before))
        return self.world.output()[len(before):]

    def test_writeq_and_write(self):
        table = [
            ("a", "a", "a"), ("hello world", "'hello world'", "hello world"), ("", "''", ""), ("it's", "'it''s'", "it's"),
            ("a\\b", "'a\\\\b'", "a\\b"), (-5, "-5", "-5"), ((0,), "A", "A"), (".", "'.'", "."), ("[]", "[]", "[]"),
            (("f", (1,), (0,), (1,)), "f(A, B, A)", "f(A, B, A)"), (("+", 1, ("*", "X", 2)), "1 + 'X' * 2", "1 + X * 2"),
            (list_of(["A b", "c"], (0,)), "['A b', c|A]", "[A b, c|A]"), (("-", "-", "+"), "'-' - '+'", "- - +"),
            (("A b", "c"), "'A b'(c)", "A b(c)"), (("-", ("-", 1, 2), ("-", 3, 4)), "1 - 2 - (3 - 4)", "1 - 2 - (3 - 4)"),
            (("{}", ("'", "'")), "{''''('''')}", "{'(')}"), (("\\+", "\\+"), "\\+ '\\\\+'", "\\+ \\+")]
        for term, quoted, plain in table:
            self.assertEqual(self.written(("writeq", 1), term), quoted)
            self.assertEqual(self.written(("write", 1), term), plain)

    def test_nl(self):
        self.assertEqual(self.written(("nl", 0)), "\n")
        self.assertEqual(self.written(("write", 1), "a"), "a")
        self.assertEqual(self.written(("nl", 0)), "\n")
        self.assertEqual(self.world.output(), "\na\n")


if __name__ == "__main__":
    unittest.main()
