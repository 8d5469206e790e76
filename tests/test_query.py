"""[4.1] to [4.7]: the plain meaning of goals."""

import unittest

from hornmill.errors import BadGoal, BadValue
from hornmill.world import World
from tests.running import Running, goal, program, shown
from tests.support import list_of, odd_terms, odd_values, tower

FACTS = "p(1). p(2). p(3). q(a). q(b). r(2, x). r(2, y). r(3, z). "


class Answers(Running):
    def test_rows(self):
        world = World([("p", (0,), ("f", (0,))), ("p", (0,), (1,))])
        query = world.query(("p", (7,), (3,)))
        self.assertEqual([query.next(), query.next(), query.next()], [("yes", [(0,), ("f", (0,))]), ("yes", [(0,), (1,)]), ("no",)])
        self.assertEqual(World().query("true").next(), ("yes", []))
        self.assertEqual(World().query((";", ("=", (9,), (4,)), "true")).next(), ("yes", [(0,), (0,)]))
        self.assertEqual(World().query(("=", (4,), ("f", (2,), (9,), (2,)))).next(), ("yes", [("f", (0,), (1,), (0,)), (0,), (1,)]))

    def test_rows_are_new(self):
        query = World([("p", 1), ("p", 1)]).query(("p", (0,)))
        query.next()[1].append("spoilt")
        self.assertEqual(query.next(), ("yes", [1]))

    def test_the_order_of_answers(self):
        self.check(FACTS, "p(X), q(Y)", "1, a", "1, b", "2, a", "2, b", "3, a", "3, b")
        self.check(FACTS, "p(X), r(X, Y)", "2, x", "2, y", "3, z")
        self.check("n(z). n(s(X)) :- n(X).", "n(X)", "z", "s(z)", "s(s(z))", most=3)
        self.check("app([], L, L). app([H|T], L, [H|R]) :- app(T, L, R).", "app(X, Y, [1, 2])",
                   "[], [1, 2]", "[1], [2]", "[1, 2], []")

    def test_no_again_and_again(self):
        for text in ("fail", "p(4)", "throw(a)", "nobody", "p(1), p(2), p(9)", "p(1)"):
            query = program(FACTS).query(goal(text), limit=1 if text.startswith("p(1),") else 5)
            while query.next()[0] == "yes":
                pass
            for _ in range(3):
                self.assertEqual(query.next(), ("no",))
                self.assertIs(query.is_open(), False)

    def test_goals_that_are_none(self):
        for wrong in odd_terms():
            for limit in (5, -1, None):
                with self.assertRaises(BadGoal) as caught:
                    World().query(wrong, limit=limit)
                self.assertIs(caught.exception.goal, wrong)
        for wrong in odd_values() + [-1, "5", [], (5,)]:
            if not (type(wrong) is int and wrong >= 0):
                with self.assertRaises(BadValue) as caught:
                    World().query("true", limit=wrong)
                self.assertEqual(caught.exception.why, "limit")
        with self.assertRaises(TypeError):
            World().query("true", 5)

    def test_terms_that_are_no_bodies(self):
        self.check("", "5", "thrown error(type_error(callable, 5), call / 1)")
        self.check("", "X", "thrown error(instantiation_error, call / 1)")
        self.check("", "write(a), 1", "thrown error(type_error(callable, (write(a), 1)), call / 1)")
        world = World()
        self.check(world, "(write(a), (true ; \\+ 1))", "thrown error(type_error(callable, (write(a), (true ; \\+ 1))), call / 1)")
        self.assertEqual(world.output(), "")

    def test_any_limit(self):
        self.assertEqual(World([("p", 1)]).query(("p", (0,)), limit=10 ** 50).next(), ("yes", [1]))


class Counts(Running):
    def counted(self, world, text, most=30, limit=2000):
        query = (program(world) if isinstance(world, str) else world).query(goal(text), limit=limit)
        results = []
        for _ in range(most):
            results.append(shown(query.next()))
            if results[-1].split()[0] in ("no", "limit", "thrown"):
                break
        return results, query.calls(), query.choices(), query.standing(), query.is_open()

    def test_the_limit(self):
        loop = "count(0) :- !. count(N) :- M is N - 1, count(M)."
        for many in (0, 1, 5, 300):
            query = program(loop).query(("count", many), limit=many + 1)
            self.assertEqual(query.next(), ("yes", []))
            self.assertEqual(query.calls(), many + 1)
            query = program(loop).query(("count", many), limit=many)
            self.assertEqual([query.next(), query.next()], [("limit",), ("no",)])
            self.assertEqual(query.calls(), many)
        self.assertEqual(self.counted(FACTS, "true", limit=0)[0], ["yes", "no"])
        self.assertEqual(self.counted(FACTS, "X = 1", limit=0)[0], ["1", "no"])
        self.assertEqual(self.counted(FACTS, "p(X)", limit=0), (["limit"], 0, 0, 0, False))
        # The limit is met ahead of the existence error.
        self.assertEqual(self.counted(FACTS, "nobody", limit=0)[0], ["limit"])
        # What was called for an answer counts for the next one, too.
        self.assertEqual(self.counted(FACTS, "p(X), q(Y)", limit=3), (["1, a", "1, b", "2, a", "2, b", "limit"], 3, 3, 2, False))
        self.assertEqual(self.counted(FACTS, "p(1) ; p(2)", limit=1), (["yes", "limit"], 1, 1, 1, False))

    def test_a_limit_is_no_ball(self):
        self.assertEqual(self.counted("l :- l.", "catch(l, _, true)", limit=7)[:2], (["limit"], 7))
        self.assertEqual(self.counted("l :- l.", "findall(X, l, _)", limit=7)[:2], (["limit"], 7))

    def test_the_given_limit_is_2000(self):
        query = program("l :- l.").query("l")
        self.assertEqual([query.next(), query.calls()], [("limit",), 2000])

    def test_by_hand(self):
        table = [
            ("true", ["yes", "no"], 0, 0, 0), ("p(X)", ["1", "2", "3", "no"], 1, 1, 1), ("p(2)", ["yes", "no"], 1, 0, 0),
            ("p(X), X = 2", ["2", "no"], 1, 1, 1), ("p(X), !", ["1", "no"], 1, 1, 1), ("p(X), q(Y), !", ["1, a", "no"], 2, 2, 2),
            ("r(2, X)", ["x", "y", "no"], 1, 1, 1), ("r(3, X)", ["z", "no"], 1, 0, 0), ("r(4, X)", ["no"], 1, 0, 0),
            ("true ; true", ["yes", "yes", "no"], 0, 1, 1), ("true ; (true ; true)", ["yes"] * 3 + ["no"], 0, 2, 1),
            ("(true ; true) ; true", ["yes"] * 3 + ["no"], 0, 2, 2),
            ("p(X) -> true", ["1", "no"], 1, 1, 1), ("p(X) -> q(Y)", ["1, a", "1, b", "no"], 2, 2, 1),
            ("(p(X) -> q(Y) ; true)", ["1, a", "1, b", "no"], 2, 3, 2), ("(fail -> true ; p(X))", ["1", "2", "3", "no"], 1, 2, 1),
            ("(p(X) *-> true ; true)", ["1", "2", "3", "no"], 1, 2, 2), ("\\+ p(X)", ["no"], 1, 2, 2), ("\\+ fail", ["yes", "no"], 0, 1, 1),
            ("once(p(X))", ["1", "no"], 1, 1, 1), ("ignore(p(X))", ["1", "no"], 1, 2, 2), ("forall(p(X), fail)", ["no"], 1, 3, 3),
            ("forall(fail, true)", ["yes", "no"], 0, 1, 1),
            ("call(p, X)", ["1", "2", "3", "no"], 1, 1, 1), ("catch(p(X), _, true)", ["1, A", "2, A", "3, A", "no"], 1, 2, 2),
            ("catch(true, _, true)", ["A", "no"], 0, 1, 1), ("findall(X, p(X), L)", ["A, [1, 2, 3]", "no"], 1, 2, 2),
            ("between(1, 3, X)", ["1", "2", "3", "no"], 0, 1, 1), ("between(1, 1, X)", ["1", "no"], 0, 0, 0),
            ("arg(X, f(a, b), Y)", ["1, a", "2, b", "no"], 0, 1, 1), ("arg(X, f(a, b), b)", ["2", "no"], 0, 1, 1),
            ("atom_concat(X, Y, a)", ["'', a", "a, ''", "no"], 0, 1, 1), ("sub_atom(ab, 1, 1, _, X)", ["0, b", "no"], 0, 0, 0),
            ("clause(p(X), B)", ["1, true", "2, true", "3, true", "no"], 0, 1, 1), ("clause(p(3), true)", ["yes", "no"], 0, 0, 0),
            ("retract(p(3))", ["yes", "no"], 0, 0, 0),
        ]
        for text, results, calls, choices, standing in table:
            with self.subTest(text):
                self.assertEqual(self.counted(FACTS, text), (results, calls, choices, standing, False))

    def test_is_open(self):
        query = program(FACTS).query(("p", (0,)))
        told = [query.is_open()]
        for _ in range(4):
            query.next()
            told.append(query.is_open())
        self.assertEqual(told, [False, True, True, False, False])
        self.assertEqual([query.calls(), query.choices(), query.standing()], [1, 1, 1])
        query = program(FACTS).query(goal("p(X), throw(X)"))
        self.assertEqual([query.next(), query.is_open()], [("thrown", 1), False])
        query = program(FACTS).query(goal("p(X), p(Y)"), limit=1)
        self.assertEqual([query.next(), query.is_open()], [("limit",), False])

    def test_counts_stay_behind_the_end(self):
        query = program(FACTS).query(goal("p(X), fail"))
        for _ in range(3):
            self.assertEqual(query.next(), ("no",))
            self.assertEqual([query.calls(), query.choices(), query.standing()], [1, 1, 1])

    def test_a_choice_goes_when_its_last_clause_is_taken(self):
        self.assertEqual(self.counted("p(1). p(2). l :- p(X), X = 2, p(Y), Y = 2.", "l"), (["yes", "no"], 3, 2, 1, False))


class Constructs(Running):
    def test_conditions(self):
        self.check(FACTS, "(p(X) -> q(Y) ; Y = none)", "1, a", "1, b")
        self.check(FACTS, "(p(9) -> q(Y) ; Y = none)", "none")
        self.check(FACTS, "(p(X) *-> q(Y) ; Y = none)", "1, a", "1, b", "2, a", "2, b", "3, a", "3, b")
        self.check(FACTS, "(p(9) *-> q(Y) ; Y = none)", "none")
        self.check(FACTS, "(p(X), X > 1 -> true ; X = 0)", "2")
        self.check(FACTS, "(p(X), X > 1 *-> true ; X = 0)", "2", "3")
        self.check(FACTS, "p(X) -> fail")
        self.check(FACTS, "p(X) *-> X > 1", "2", "3")
        self.check(FACTS, "p(9) -> true")
        self.check(FACTS, "(p(X) -> fail ; X = 0)")
        self.check(FACTS, "(true ; X = 1), (X = 2 -> true ; true)", "2", "1")

    def test_negations_once_ignore_forall(self):
        self.check(FACTS, "\\+ p(X)")
        self.check(FACTS, "\\+ p(9)", "yes")
        self.check(FACTS, "\\+ \\+ p(X)", "A")
        self.check(FACTS, "once(p(X))", "1")
        self.check(FACTS, "once(p(9))")
        self.check(FACTS, "ignore(p(X))", "1")
        self.check(FACTS, "ignore(p(9))", "yes")
        self.check(FACTS, "forall(p(X), X > 0)", "A")
        self.check(FACTS, "forall(p(X), X > 1)")
        self.check(FACTS, "forall(p(9), fail)", "yes")
        self.check(FACTS, "(once(p(X)) ; X = 0)", "1", "0")
        self.check(FACTS, "(\\+ p(9) ; true)", "yes", "yes")

    def test_cuts_in_bodies(self):
        rules = "s(X) :- p(X), !. s(0). t(X) :- p(X), X > 1, !. t(0). u(X) :- !, p(X). u(0). "
        self.check(FACTS + rules, "s(X)", "1")
        self.check(FACTS + rules, "t(X)", "2")
        self.check(FACTS + rules, "u(X)", "1", "2", "3")
        self.check(FACTS + rules, "q(X), s(Y)", "a, 1", "b, 1")
        self.check(FACTS + "s(X) :- p(X). s(X) :- !, X = c. s(0).", "s(X)", "1", "2", "3", "c")

    def test_cuts_in_constructs(self):
        for body, expected in (
                ("(p(X), ! ; X = 9)", ["1"]), ("(p(X) ; X = 9), X > 1, !", ["2"]), ("(true -> ! ; true), p(X)", ["1", "2", "3"]),
                ("(p(X) -> ! ; true)", ["1"]), ("(p(X), X > 1 -> true ; !)", ["2", "0"]), ("(fail -> true ; !), p(X)", ["1", "2", "3"]),
                ("(p(X), ! -> true ; true)", ["1", "0"]), ("(p(X), ! *-> true ; true)", ["1", "0"]), ("(p(X) *-> ! ; true)", ["1"]),
                ("\\+ (!, fail), p(X)", ["1", "2", "3", "0"]), ("once((p(X), !))", ["1", "0"]), ("ignore((p(X), !))", ["1", "0"]),
                ("forall(!, !), p(X)", ["1", "2", "3", "0"]), ("call(!), p(X)", ["1", "2", "3", "0"]),
                ("call((p(X), !))", ["1", "0"]), ("G = !, G, p(X)", ["1", "2", "3", "0"]), ("findall(Y, (p(Y), !), [X])", ["1", "0"]),
                ("catch((p(X), !), _, true)", ["1", "0"]), ("(! ; true), p(X)", ["1", "2", "3"]), ("p(X), (true ; !)", ["1", "1"]),
                ("((p(X), ! -> true ; fail) ; X = 7)", ["1", "7", "0"]), ("(p(X) ; !, X = 8)", ["1", "2", "3", "8"]),
                ("p(X), once(!)", ["1", "2", "3", "0"]), ("(! -> p(X))", ["1", "2", "3", "0"]), ("(true -> !, p(X))", ["1", "2", "3"])):
            self.check(FACTS + f"s(X) :- {body}. s(0).", "s(X)", *expected)

    def test_struck_choices(self):
        self.check(FACTS, "(p(X) *-> true ; X = 0), X > 1", "2", "3")
        self.check(FACTS, "(p(X), X < 3 *-> true ; X = 0)", "1", "2")
        self.check(FACTS, "(p(X), X < 3 *-> q(Y) ; X = 0)", "1, a", "1, b", "2, a", "2, b")
        self.check(FACTS, "((X = 1 ; X = 2, fail) *-> true ; X = 0)", "1")
        self.check(FACTS + "s(X) :- (p(X), X < 3 *-> true ; X = 0), X > 1. s(9).", "s(X)", "2", "9")
        self.check(FACTS, "((p(X) *-> q(Y) ; fail) ; X = 7)", "1, a", "1, b", "2, a", "2, b", "3, a", "3, b", "7, A")
        self.check(FACTS, "((X = 1 ; X = 2) *-> fail ; X = 3)")
        self.check(FACTS, "((X = 1 ; X = 2) *-> (true ; fail) ; X = 3), !", "1")
        query = program(FACTS).query(goal("(p(X) *-> true ; X = 0)"))
        found = []
        for _ in range(4):
            found.append((shown(query.next()), query.is_open()))
        # The struck choice stands below the clauses that are left, and goes when it is the last one.
        self.assertEqual(found, [("1", True), ("2", True), ("3", False), ("no", False)])
        query = program(FACTS).query(goal("(p(2) *-> true ; true)"))
        self.assertEqual([query.next(), query.is_open()], [("yes", []), False])

    def test_constructs_in_variables(self):
        self.check(FACTS, "G = (p(X), X > 1), G", "(p(2), 2 > 1), 2", "(p(3), 3 > 1), 3")
        self.check(FACTS, "X = 1, (Y = (X -> 2))", "1, (1 -> 2)")
        self.check("g((X = 1 -> true), X).", "g(G, X), (G ; X = 0)", "(1 = 1 -> true), 1", "(0 = 1 -> true), 0")


class Calls(Running):
    def test_rows_by_the_first_argument(self):
        world = "s(1, a). s(X, b). s(f(_), c). s(x, d). s(f(_, _), e). s(1, f). s('1', g). s([], h). s([_|_], i)."
        for first, expected in (("1", "abf"), ("2", "b"), ("x", "bd"), ("f(9)", "bc"), ("f(1, 2)", "be"), ("g(1)", "b"), ("'1'", "bg"),
                                ("[]", "bh"), ("[1]", "bi"), ("f(g)", "bc")):
            self.check(world, f"s({first}, R)", *expected)
            query = program(world).query(goal(f"s({first}, R)"))
            query.next()
            self.assertEqual(query.choices(), 1 if len(expected) > 1 else 0)
        self.check(world, "(true ; X = 2), s(X, R), R = f", "1, f")
        self.assertEqual([row[-1] for row in self.answers(program(world), "s(X, R)")], list("abcdefghi"))

    def test_the_first_argument_is_looked_at_with_its_bindings(self):
        query = program("s(1, a). s(2, b). s(2, c).").query(goal("X = 1, s(X, Y)"))
        self.assertEqual([query.next(), query.choices()], [("yes", [1, "a"]), 0])

    def test_heads_and_arguments_that_do_not_fit(self):
        world = "s(x, f(a)). s(x, h(f(a), f(a))). s(x, [1])."
        for one in ("f(b)", "f(1)", "g(a)", "f(a, a)", "a", "f", "h(f(a), g(a))", "h(g(a), f(a))", "h(f(a), f(a), f(a))", "h(f(a), a)", "[2]",
                    "[1|x]", "[1, 2]", "[]", "'.'(1)", "h(X, X, X)", "h(X, f(X))", "f(f(a))"):
            self.check(world, f"s(x, {one})")
            self.check(world, f"X = {one.replace('X', 'Y')}, s(x, X)")
        self.check(world, "s(x, f(X))", "a")
        self.check(world, "s(x, h(X, X))", "f(a)")
        self.check(world, "s(X, [Y|Z])", "x, 1, []")
        self.check("e(X, X).", "e(f(a), g(a))")
        self.check("e(X, X).", "e(f(a, Y), f(a))")
        self.check("e(X, X).", "e(h(f(a), Y), h(g(a), Y))")

    def test_all_clauses_without_arguments(self):
        query = program("s. s :- fail. s.").query("s")
        self.assertEqual([query.next(), query.next(), query.next(), query.choices()], [("yes", []), ("yes", []), ("no",), 1])

    def test_unknown_predicates_and_those_without_clauses(self):
        self.check(FACTS, "nobody(1, X)", "thrown error(existence_error(procedure, nobody / 2), nobody / 2)")
        self.check(FACTS, "p(1, X)", "thrown error(existence_error(procedure, p / 2), p / 2)")
        self.check(FACTS, "p(X), nobody", "thrown error(existence_error(procedure, nobody / 0), nobody / 0)")
        self.check(FACTS, "retractall(new(_)), new(X)")
        self.check(FACTS, "retract(p(1)), retract(p(2)), retract(p(3)), p(X)")
        self.check(FACTS, "abolish(p / 1), p(X)", "thrown error(existence_error(procedure, p / 1), p / 1)")
        self.check(FACTS, "p", "thrown error(existence_error(procedure, p / 0), p / 0)")
        self.check(FACTS, "','(1)", "thrown error(existence_error(procedure, ',' / 1), ',' / 1)")

    def test_call_with_further_arguments(self):
        self.check(FACTS, "call(r(2), X)", "x", "y")
        self.check(FACTS, "call(r, 2, X)", "x", "y")
        self.check(FACTS, "G = r(2), call(G, X)", "r(2), x", "r(2), y")
        self.check(FACTS, "call(',', p(X), q(Y))", "1, a", "1, b", "2, a", "2, b", "3, a", "3, b")
        self.check(FACTS, "call(;, X = 1, X = 2)", "1", "2")
        self.check(FACTS, "call((;), X = 1, X = 2)", "1", "2")
        self.check(FACTS, "call(;(X = 1), X = 2)", "1", "2")
        self.check(FACTS, "call(->, p(X), true)", "1")
        self.check(FACTS, "call(\\+, fail)", "yes")
        self.check(FACTS, "call(call, call, p(X))", "1", "2", "3")
        self.check(FACTS, "call(call(call, r), 3, X)", "z")
        self.check(FACTS, "call(findall(X), p(X), L)", "A, [1, 2, 3]")
        self.check("w(A, B, C, D, E, F, G, H) :- X = H.", "call(w, 1, 2, 3, 4, 5, 6, 7), fail ; true",
                   "thrown error(existence_error(procedure, w / 7), w / 7)")
        self.check("w(1, 2, 3, 4, 5, 6, 7, 8).", "call(w(1, 2), 3, 4, 5, 6, 7, X)", "8")

    def test_call_with_each_number_of_arguments(self):
        world = program("".join(f"w({', '.join('abcdefgh'[:many])}). " for many in range(1, 9)))
        for many in range(1, 8):
            args = ", ".join("abcdefgh"[:many])
            self.check(world, f"call(w, {args})", "yes")
            self.check(world, f"call(w, {args}x)")
            self.check(world, f"call(w(a), {', '.join('bcdefgh'[:many])})", "yes")
            self.check(world, f"call(w(X), {', '.join('bcdefgh'[:many])})", "a")

    def test_errors_of_call(self):
        inst = "thrown error(instantiation_error, call / {})"
        self.check("", "call(X)", inst.format(1))
        self.check("", "call(X, a, b)", inst.format(3))
        self.check("", "call(5)", "thrown error(type_error(callable, 5), call / 1)")
        self.check("", "call(5, a)", "thrown error(type_error(callable, 5), call / 2)")
        self.check("", "call(f(1, 2), 3, 4, 5, 6, 7, 8, 9)", "thrown error(representation_error(max_arity), call / 8)")
        self.check("", "call(f(1, 2, 3, 4, 5, 6, 7, 8), 9)", "thrown error(representation_error(max_arity), call / 2)")
        self.check("", "call((fail, 1))", "thrown error(type_error(callable, (fail, 1)), call / 1)")
        self.check("", "call(',', fail, 1)", "thrown error(type_error(callable, (fail, 1)), call / 3)")
        self.check("", "call(',', X, 1)", "thrown error(type_error(callable, (A, 1)), call / 3)")
        self.check("", "call((fail, X, \\+ 1))", "thrown error(type_error(callable, (fail, A, \\+ 1)), call / 1)")
        self.check("", "X = 1, call((write(a), X))", "thrown error(type_error(callable, (write(a), 1)), call / 1)")
        self.check("", "call((fail, X))")
        self.check("", "call((true, X))", inst.format(1))
        self.check("s :- X, fail.", "s", inst.format(1))

    def test_a_goal_of_a_variable_is_called_when_it_is_come_to(self):
        self.check(FACTS, "G = true, call((X = 1, G, X = 1))", "true, 1")
        self.check(FACTS, "call((G = p(X), G))", "p(1), 1", "p(2), 2", "p(3), 3")
        self.check(FACTS, "call((G = (p(X), !), G))", "(p(1), !), 1")
        self.check(FACTS, "call((G = (fail ; true), G))", "(fail ; true)")
        self.check(FACTS, "call((G = 1, G))", "thrown error(type_error(callable, 1), call / 1)")

    def test_no_term_has_itself_within(self):
        self.check("e(X, X). s(X, f(X)).", "e(X, f(X))")
        self.check("e(X, X). s(X, f(X)).", "s(X, X)")
        self.check("e(X, X). s(X, f(X)).", "s(X, Y)", "A, f(A)")
        self.check("", "X = f(Y), Y = g(X)")
        self.check("", "f(X, Y) = f(g(Y), g(X))")
        self.check("", "f(A, f(A)) = f(f(B), B), A = B")
        self.check("e(X, X).", "X = f(Z), Y = f(X), e(X, Y)")
        self.check("e(X, X).", "X = f(Z), e(X, f(X))")

    def test_long_loops_and_deep_terms(self):
        world = program("""count(0) :- !. count(N) :- M is N - 1, count(M).
            len([], 0). len([_|T], N) :- len(T, M), N is M + 1.
            list(0, []) :- !. list(N, [N|T]) :- M is N - 1, list(M, T).
            app([], L, L). app([H|T], L, [H|R]) :- app(T, L, R).
            peano(0, z) :- !. peano(N, s(X)) :- M is N - 1, peano(M, X).
            plus(z, X, X). plus(s(X), Y, s(Z)) :- plus(X, Y, Z). eq(X, X).""")
        for text in ("count(20000)", "list(3000, L), len(L, 3000), fail ; true", "list(2000, L), app(L, [a], M), len(M, 2001), fail ; true",
                     "peano(3000, X), plus(X, X, Y), peano(6000, Z), eq(Y, Z), fail ; true"):
            query = world.query(goal(text), limit=10 ** 6)
            self.assertEqual(query.next()[0], "yes")

    def test_great_terms_by_shared_parts(self):
        world = program("d(z, _). d(s(N), X) :- d(N, f(X, X)). e(X, X). t(X, Y) :- g(X, A), g(Y, B), e(A, B). g(X, f(X, X)).")
        depth = "z"
        for _ in range(60):
            depth = ("s", depth)
        self.assertEqual(world.query(("d", depth, (0,))).next(), ("yes", [(0,)]))
        steps = ["true"]
        for k in range(50):
            steps += [("g", (k,), (k + 1,)), ("g", (100 + k,), (101 + k,))]
        body = ("e", (50,), (150,))
        for step in reversed(steps):
            body = (",", step, body)
        world.query(("assertz", (":-", ("both", (0,), (100,)), body))).next()
        self.assertEqual(world.query(("both", (0,), (1,))).next(), ("yes", [(0,), (0,)]))
        self.assertEqual(world.query(("both", "a", "b")).next(), ("no",))
        self.assertEqual(world.query(("both", (0,), ("f", (0,)))).next(), ("no",))


class Catches(Running):
    def test_catch_and_throw(self):
        self.check(FACTS, "catch(throw(a), a, true)", "yes")
        self.check(FACTS, "catch(throw(a), b, true)", "thrown a")
        self.check(FACTS, "catch(throw(f(X, Y, X)), B, true)", "A, B, f(C, D, C)")
        self.check(FACTS, "catch(throw(f(X)), f(1), true)", "A")
        self.check(FACTS, "throw(f(X, Y, X))", "thrown f(A, B, A)")
        self.check(FACTS, "catch((p(X), X > 1, throw(X)), Y, true)", "A, 2")
        self.check(FACTS, "throw(X)", "thrown error(instantiation_error, throw / 1)")
        self.check(FACTS, "catch(throw(X), Y, true)", "A, error(instantiation_error, throw / 1)")
        self.check(FACTS, "catch(p(X), _, true)", "1, A", "2, A", "3, A")
        self.check(FACTS, "catch(fail, _, true)")
        self.check(FACTS, "catch(throw(1), 1, fail)")
        self.check(FACTS, "catch(throw(1), X, p(X))", "1")
        self.check(FACTS, "catch(throw(9), X, p(Y))", "9, 1", "9, 2", "9, 3")

    def test_catches_within_one_another(self):
        self.check(FACTS, "catch(catch(throw(a), b, true), a, X = outer)", "outer")
        self.check(FACTS, "catch(catch(throw(a), a, X = inner), a, X = outer)", "inner")
        self.check(FACTS, "catch(catch(throw(a), a, throw(b)), X, true)", "b")
        self.check(FACTS, "catch(catch(throw(a), a, throw(a)), a, X = outer)", "outer")
        self.check(FACTS, "catch(catch(throw(a), a, throw(c)), b, true)", "thrown c")
        self.check(FACTS, "catch((catch(p(X), _, true), X > 1, throw(X)), Y, true)", "A, B, 2")

    def test_bindings_are_undone(self):
        self.check(FACTS, "catch((X = 1, throw(b)), b, true)", "A")
        self.check(FACTS, "X = 0, catch((Y = 1, throw(X)), Z, true)", "0, A, 0")
        self.check(FACTS, "catch((X = 1, throw(b)), X, true)", "b")
        # A catcher that does not fit leaves no bindings for those further out.
        self.check(FACTS, "catch(catch(throw(f(1, 2)), f(X, X), true), f(Y, Z), true)", "A, 1, 2")

    def test_the_recovery_is_called_outside_of_its_catch(self):
        self.check(FACTS, "catch(throw(a), a, (p(X), !)), q(Y)", "1, a", "1, b")
        self.check(FACTS, "catch(throw(a), X, 5)", "thrown error(type_error(callable, 5), call / 1)")
        self.check(FACTS, "catch(throw(a), X, Y)", "thrown error(instantiation_error, call / 1)")
        self.check(FACTS, "catch(true, X, 5)", "A")
        self.check(FACTS, "catch(catch(throw(a), _, X), B, true)", "A, B, error(instantiation_error, call / 1)")

    def test_catches_that_were_left_are_not_active(self):
        self.check(FACTS, "catch(true, _, true), throw(a)", "thrown a")
        self.check(FACTS, "catch(p(X), Y, true), throw(X)", "thrown 1")
        self.check("s(1). s(X) :- throw(X).", "catch(s(X), Y, X = caught(Y)), true",
                   "1, A", "caught(error(instantiation_error, throw / 1)), error(instantiation_error, throw / 1)")
        # Come back to by failing, the catch is active again.
        self.check("s(1). s(_) :- throw(b).", "catch(s(X), b, X = 2), X > 1", "2")
        self.check("s(1). s(_) :- throw(b).", "catch((s(X), X > 1), b, X = 3)", "3")
        self.check("s(1). s(_) :- throw(b).", "catch(s(X), b, X = 2), !, throw(b)", "thrown b")

    def test_choices_of_the_goal_go(self):
        self.check(FACTS, "catch((p(X), throw(a)), a, true)", "A")
        self.check(FACTS, "p(X), catch((q(Y), throw(a)), a, true)", "1, A", "2, A", "3, A")
        query = program(FACTS).query(goal("catch((p(X), q(Y), throw(a)), a, true)"))
        self.assertEqual([query.next(), query.is_open(), query.standing(), query.choices()], [("yes", [(0,), (1,)]), False, 3, 3])

    def test_errors_are_balls(self):
        self.check(FACTS, "catch(nobody, error(E, W), true)", "existence_error(procedure, nobody / 0), nobody / 0")
        self.check(FACTS, "catch(X is foo + 1, error(type_error(T, V), _), true)", "A, evaluable, foo / 0, 'is' / 2")
        self.check(FACTS, "catch(call(1), error(E, _), true)", "type_error(callable, 1), call / 1")
        self.check(FACTS, "catch(atom_length(X, Y), error(E, W), true)", "A, B, instantiation_error, atom_length / 2")
        self.check(FACTS, "catch(atom_length(f(X), Y), E, true)", "A, B, error(type_error(atom, f(C)), atom_length / 2)")

    def test_balls_are_copies(self):
        self.check(FACTS, "X = f(Y), catch(throw(X), Z, true), Y = 1", "f(1), 1, f(A)")


class Findalls(Running):
    def test_lists(self):
        self.check(FACTS, "findall(X, p(X), L)", "A, [1, 2, 3]")
        self.check(FACTS, "findall(X - Y, (p(X), q(Y)), L)", "A, B, [1 - a, 1 - b, 2 - a, 2 - b, 3 - a, 3 - b]")
        self.check(FACTS, "findall(X, p(9), L)", "A, []")
        self.check(FACTS, "findall(X, p(X), [A, B|C])", "A, 1, 2, [3]")
        self.check(FACTS, "findall(X, p(X), [A, B])")
        self.check(FACTS, "findall(X, p(X), none)")
        self.check(FACTS, "findall(X, p(X), L, T)", "A, [1, 2, 3|B], B")
        self.check(FACTS, "findall(X, p(X), L, [4])", "A, [1, 2, 3, 4]")
        self.check(FACTS, "findall(X, p(9), L, t)", "A, t")
        self.check(FACTS, "findall(f, p(_), L)", "A, [f, f, f]")

    def test_copies(self):
        self.check(FACTS, "findall(f(X, Y), (X = 1 ; true), L)", "A, B, [f(1, C), f(D, E)]")
        self.check(FACTS, "findall(f(X, X, Y), true, L)", "A, B, [f(C, C, D)]")
        self.check(FACTS, "Y = 1, findall(f(X, Y), true, L)", "1, A, [f(B, 1)]")
        self.check(FACTS, "findall(X, member, L)", "thrown error(existence_error(procedure, member / 0), member / 0)")

    def test_cuts_and_nests(self):
        self.check(FACTS, "findall(X, (p(X), !), L)", "A, [1]")
        self.check(FACTS, "findall(L, (p(X), findall(Y, r(X, Y), L)), M)", "A, B, C, [[], [x, y], [z]]")
        self.check(FACTS, "p(X), findall(Y, r(X, Y), L)", "1, A, []", "2, A, [x, y]", "3, A, [z]")

    def test_errors(self):
        self.check(FACTS, "findall(X, G, L)", "thrown error(instantiation_error, call / 1)")
        self.check(FACTS, "findall(X, 5, L)", "thrown error(type_error(callable, 5), call / 1)")
        self.check(FACTS, "findall(X, (p(X), X > 1, throw(x(X))), L)", "thrown x(2)")
        self.check(FACTS, "catch(findall(X, (p(X), X > 1, throw(x(X))), L), x(Y), true)", "A, B, 2")
        self.check(FACTS, "catch((findall(X, p(X), L), throw(L)), M, true)", "A, B, [1, 2, 3]")
        self.check(FACTS, "findall(X, catch((p(X), X > 1, throw(e)), e, true), L)", "A, [B]")


class Facts(Running):
    """[4.7]"""

    GOALS = ("p(X)", "p(X), q(Y)", "(p(X) ; q(X))", "p(9)", "r(2, X)", "(p(X), X > 1)", "fail", "true")

    def test_conditions(self):
        for one in self.GOALS:
            for other in self.GOALS:
                self.assertEqual(self.answers(program(FACTS), f"({one}) -> ({other})"),
                                 self.answers(program(FACTS), f"(({one}) -> ({other}) ; fail)"))
            self.assertEqual(self.answers(program(FACTS), f"\\+ ({one})"), self.answers(program(FACTS), f"(({one}) -> fail ; true)"))

    def test_other_numbers_for_variables(self):
        clauses = [("p", (0,), ("f", (1,), (0,))), (":-", ("q", (0,), (1,)), (",", ("p", (0,), (1,)), ("=", (0,), ("g", (2,)))))]
        others = [("p", (8,), ("f", (3,), (8,))), (":-", ("q", (5,), (0,)), (",", ("p", (5,), (0,)), ("=", (5,), ("g", (77,)))))]
        for one, other in (((0,), (1,)), ((6,), (2,))):
            self.assertEqual(World(clauses).query(("q", one, other)).next(), World(others).query(("q", (1,), (0,))).next())

    def test_deep_goals(self):
        deep = "true"
        for _ in range(298):
            deep = (",", "true", deep)
        self.assertEqual(World().query(deep).next(), ("yes", []))
        deep = "true"
        for _ in range(298):
            deep = ("\\+", deep)
        self.assertEqual(World().query(deep).next(), ("yes", []))
        self.assertEqual(World([("p", tower(299))]).query(("p", (0,))).next(), ("yes", [tower(299)]))
        self.assertEqual(World([("p", (0,), (0,))]).query(("p", list_of(range(298)), (0,))).next(), ("yes", [list_of(range(298))]))


if __name__ == "__main__":
    unittest.main()
