"""[0.1], [5.20] to [5.29], [6.7], [7.1] to [7.5], [8.1] to [8.7], [12.7] to [12.9]: goals by a query and by a machine, which must agree."""

import unittest

from hornmill.machine import Machine
from hornmill.world import World
from tests.running import Running, goal, program
from tests.test_machine import run_to


def thrown(formal, place):
    return f"thrown error({formal}, {place})"


class Builtins(Running):
    def test_texts(self):
        for text, *expected in (
                ("atom_length(abc, N)", "abc, 3"), ("atom_chars(X, [a, b|T])", thrown("instantiation_error", "atom_chars / 2")),
                ("atom_concat(X, Y, ab)", "'', ab, ab"), ("atom_concat(X, b, ab)", "a"), ("sub_atom(abc, B, 2, A, S)", "0, 1, ab", "1, 0, bc"),
                ("sub_atom(ab, B, L, B, S)", "0, 2, ab", "1, 0, ''"), ("char_code(X, 0'a)", "a"), ("number_codes(X, [0'-, 0'1])", "-1"), ("number_codes(X, [])", thrown("domain_error(number, [])", "number_codes / 2"))):
            with self.subTest(text):
                found = self.answers(World(), text)
                if text.startswith("atom_concat(X, Y"):
                    self.assertEqual(found, ["'', ab", "a, b", "ab, ''"])
                elif text.startswith("atom_length"):
                    self.assertEqual(found, ["3"])
                else:
                    self.assertEqual(found, list(expected))

    def test_numbers_and_lists(self):
        self.check("", "between(1, 3, X)", "1", "2", "3")
        self.check("", "between(2, 1, X)")
        self.check("", "(between(1, 3, X), X > 1, between(X, 3, Y))", "2, 2", "2, 3", "3, 3")
        self.check("", "length(L, 2)", "[A, B]")
        self.check("", "(length([A, B|T], 3), T = [c])", "A, B, [c]")
        self.check("", "(msort([b, f(X), 3, X, a, 3], L))", "A, [A, 3, 3, a, b, f(A)]")
        self.check("", "(sort([b, X, a, Y, b], L))", "A, B, [A, B, a, b]")
        self.check("", "(keysort([b - 1, a - 2, b - 0, a - 1], L))", "[a - 2, a - 1, b - 1, b - 0]")
        self.check("", "(X is 7 mod -2 + 2 ** 3)", "7")
        self.check("", "(1 + 1 =:= 2, 3 > 2, 2 =< 2, 1 =\\= 2, 2 >= 1, 1 < 2)", "yes")
        self.check("", "catch(X is foo + 1, error(E, P), true)", "A, type_error(evaluable, foo / 0), 'is' / 2")

    def test_terms(self):
        self.check("", "functor(T, f, 3)", "f(A, B, C)")
        self.check("", "(functor(T, f, 2), arg(N, T, a))", "f(a, A), 1", "f(A, a), 2")
        self.check("", "(T =.. [f, X, Y|[]], X = 1, T =.. L)", "f(1, A), 1, A, [f, 1, A]")
        self.check("", "(copy_term(f(X, Y, X), C), X = 1)", "1, A, f(B, C, B)")
        self.check("", "(X = f(Y), term_variables(g(X, Z, Y), L))", "f(A), A, B, [A, B]")
        self.check("", "(compare(O, X, Y), compare(P, Y, X), X == X, X \\== Y, f(X) @> g)", "<, A, B, <")
        self.check("", "(X = f(X) ; X = 1)", "1")
        self.check("", "(\\+ f(X) = g(X), f(X) \\= f(g(X)), subsumes_term(f(_), f(X)))", "A, B")

    def test_rows_that_bind_one_variable_twice(self):
        self.check("", "arg(X, f(1, 3, 3), X)", "1", "3")
        self.check("", "atom_concat(X, X, abab)", "ab")
        self.check("", "(between(1, 3, X), arg(X, f(X, Y, X), 1))", "1, A", "2, 1")

    def test_variables_of_the_stack(self):
        text = "n(_). p(T) :- n(X), n(Y), T = f(X, g(Y)), n(X), n(Y). q(Z) :- n(X), n(Y), X = Y, n(X), Y = Z. r(X, Y) :- n(A), n(B), functor(A, f, 2), copy_term(g(A, B), C), n(A), n(B), n(C), X = A, Y = C."
        self.check(text, "p(T)", "f(A, g(B))")
        self.check(text, "q(Z)", "A")
        self.check(text, "(q(f(Z)), q(Y))", "A, B")
        self.check(text, "r(X, Y)", "f(A, B), g(f(C, D), E)")
        machine = Machine(program(text), goal("r(X, Y)"))
        while machine.step() is None:
            self.assertTrue(all(cell[0] != "ref" or cell[1][0] == "h" for cell in machine.heap()))
        self.check("n(_). p :- n(X), findall(X - Y, (Y = X ; Y = 1), L), n(X), n(L), write(L).", "p", "yes")
        self.check("n(_). p(L) :- n(X), n(E), findall(X, true, L, E), n(X), n(E).", "p(L)", "[A|B]")
        self.check("n(_). p(E) :- n(X), n(Y), catch(throw(b(X, c)), b(X, Y), E = X - Y), n(X), n(Y).", "p(E)", "A - c")
        self.check("n(_). p(X) :- n(Y), call(=, X, f(Y)), n(Y), call(n, Y), Y = 1.", "p(X)", "f(1)")


class Control(Running):
    def test_call(self):
        self.check("p(a, b). p(a, c).", "(G = p, call(G, a, X))", "p, b", "p, c")
        self.check("p(1). p(2).", "(call((p(X), !)), call(((p(Y) ; true), !)))", "1, 1")
        self.check("p(1). p(2).", "(p(X), call(!), p(Y))", "1, 1", "1, 2", "2, 1", "2, 2")
        self.check("", "call(;, X = 1, X = 2)", "1", "2")
        self.check("", "call(',', X = 1, Y = 2)", "1, 2")
        self.check("", "call(','(X = 1), Y = 2)", "1, 2")
        self.check("", "call(call, call, =, X, 1)", "1")
        self.check("", "call(1)", thrown("type_error(callable, 1)", "call / 1"))
        self.check("", "call((fail, 1))", thrown("type_error(callable, (fail, 1))", "call / 1"))
        self.check("", "call(f(1, 2, 3, 4, 5), 6, 7, 8, 9)", thrown("representation_error(max_arity)", "call / 5"))
        self.check("", "call(X, 1)", thrown("instantiation_error", "call / 2"))
        self.check("", "call(3, 1)", thrown("type_error(callable, 3)", "call / 2"))
        self.check("", "call((foo :- bar))", thrown("existence_error(procedure, ':-' / 2)", "':-' / 2"))

    def test_catches_within_one_another(self):
        text = "p(1). p(2). p(3). t(X) :- p(X), X > 1, throw(b(X))."
        self.check(text, "catch(catch(t(X), c(Y), true), b(Z), true)", "A, B, 2")
        self.check(text, "catch(catch(t(X), b(Y), throw(c(Y))), c(Z), true)", "A, B, 2")
        self.check(text, "catch((p(X), catch(p(Y), E, true), Y >= 2, throw(x(X, Y))), x(A, B), true)", "A, B, C, 1, 2")
        self.check(text, "catch(p(X), E, true)", "1, A", "2, A", "3, A")
        self.check(text, "(catch(p(X), E, true), X >= 2, throw(late))", "thrown late")
        self.check(text, "catch((catch(p(X), E, (true ; true)), X >= 2, throw(late(X))), late(Y), p(Z))", "A, B, 2, 1", "A, B, 2, 2", "A, B, 2, 3")
        # A catch that was left is active again when a choice within its goal is come back to.
        self.check("q(1). q(2) :- throw(b).", "(catch(q(X), b, X = c), X \\== 1)", "c")
        self.check(text, "catch(throw(X), E, true)", "A, error(instantiation_error, throw / 1)")
        self.check(text, "catch(throw(f(X, Y, X)), f(A, B, C), true)", "A, B, C, D, C")
        self.check(text, "catch(catch(throw(a), X, Y), error(E, P), true)", "A, B, instantiation_error, call / 1")
        self.check(text, "catch(catch(throw(a), a, 1), error(E, P), true)", "type_error(callable, 1), call / 1")
        self.check(text, "catch((p(X), throw(X)), 2, true)", "thrown 1")
        self.check(text, "(p(X), catch((!, fail), E, true) ; X = 9)", "9, A")
        self.check(text, "(catch(!, E, true), p(X))", "A, 1", "A, 2", "A, 3")

    def test_findall(self):
        text = "p(1). p(2). p(3)."
        self.check(text, "findall(X - Y, p(X), L)", "A, B, [1 - C, 2 - D, 3 - E]")
        self.check(text, "findall(X, p(X), [A, B|C])", "A, 1, 2, [3]")
        self.check(text, "findall(X, p(X), [1, 3|C])")
        self.check(text, "findall(X, p(X), L, [4|T])", "A, [1, 2, 3, 4|B], B")
        self.check(text, "findall(X, fail, L, T)", "A, B, B")
        self.check(text, "findall(L, findall(X, p(X), L), M)", "A, B, [[1, 2, 3]]")
        self.check(text, "(p(Y), findall(X, (p(X), X < Y), L))", "1, A, []", "2, A, [1]", "3, A, [1, 2]")
        self.check(text, "catch(findall(X, (p(X), X > 1, throw(b(X))), L), b(Y), true)", "A, B, 2")
        self.check(text, "findall(X, (catch(p(X), E, true), !), L)", "A, B, [1]")
        self.check(text, "catch(findall(X, (findall(Y, throw(Y), L) ; p(X)), M), E, true)", "A, B, C, D, error(instantiation_error, throw / 1)")
        self.check(text, "findall(X, Y, L)", thrown("instantiation_error", "call / 1"))
        self.check(text, "findall(f(X, Y, X), (X = g(Y) ; Y = X), [f(A, B, A), C])", "A, B, g(C), C, f(D, D, D)")

    def test_cuts_and_levels(self):
        text = "p(1). p(2). p(3). a(X) :- p(X), !. b(X) :- ( p(X), ! ; X = 4 ). c(X) :- ( p(X), X > 1 -> true ; X = 5 ). d(X) :- ( fail -> true ; p(X), ! ). e(X) :- \\+ \\+ p(X), p(X). f(X) :- ( p(X) *-> X > 1 ; X = 0 ). g(X) :- ( p(X), X > 3 *-> true ; X = 0 ), !. h(X) :- p(X), \\+ (p(Y), !, Y > X)."
        for asked, expected in (("a(X)", ["1"]), ("b(X)", ["1"]), ("c(X)", ["2"]), ("d(X)", ["1"]), ("e(X)", ["1", "2", "3"]), ("f(X)", ["2", "3"]), ("g(X)", ["0"]), ("h(X)", ["1", "2", "3"]),
                                ("(p(X), (X > 1 -> ! ; true))", ["1", "2"]), ("once(p(X))", ["1"]), ("ignore((p(X), X > 2))", ["3"]), ("forall(p(X), X > 0)", ["A"]), ("(p(X), once(p(Y)), !)", ["1, 1"]),
                                ("((p(X) *-> p(Y) ; true), Y > 2)", ["1, 3", "2, 3", "3, 3"]), ("((p(X), (true *-> ! ; true)) ; X = 7)", ["1"]), ("((p(X) *-> !, p(Y) ; true) ; X = 7)", ["1, 1", "1, 2", "1, 3"])):
            self.check(text, asked, *expected)


class Programs(Running):
    def test_worlds_that_goals_change(self):
        self.check("p(1). p(2).", "(p(X), Y is X + 2, Y < 9, assertz(p(Y)))", "1, 3", "2, 4")
        self.check("p(1). p(2). p(3).", "(retract(p(X)), X > 1, assertz(q(X)), q(Y))", "2, 2", "3, 2", "3, 3")
        self.check("p(1). p(2). p(3).", "(p(X), retractall(p(_)), assertz(p(X)))", "1, A", "2, A", "3, A")
        self.check("p(1). p(2). p(3).", "(clause(p(X), true), retract(p(3)))", "1")
        self.check("p(1). p(2). p(3).", "(clause(p(X), true), ignore(retract(p(2))))", "1", "3")
        self.check("p(1) :- q. p(2) :- r, s. r. s.", "(clause(p(X), (A, B)), assertz((t(X) :- B, (A ; fail))), t(Y))", "2, r, s, 2")
        self.check("p(1).", "(asserta((p(X) :- X = 2 ; X = 3)), p(Y))", "A, 2", "A, 3", "A, 1")
        self.check("p(1).", "(abolish(p / 1), p(X))", thrown("existence_error(procedure, p / 1)", "p / 1"))
        self.check("p(1).", "(assertz((p(X) :- p(2))), p(3))", "limit", limit=9)
        self.check("p(1).", "catch(assertz((foo :- 1)), error(E, P), true)", "type_error(callable, 1), assertz / 1")
        self.check("c(0).", "(between(1, 3, _), retract(c(N)), M is N + 1, assertz(c(M)), fail ; c(X))", "A, B, C, 3")

    def test_all_solutions(self):
        text = "p(1, a). p(2, b). p(3, a). q(f(X, Y), X). q(f(X, b), X)."
        self.check(text, "bagof(X, p(X, Y), L)", "A, a, [1, 3]", "A, b, [2]")
        self.check(text, "bagof(X, Y ^ p(X, Y), L)", "A, B, [1, 2, 3]")
        self.check(text, "setof(Y - X, p(X, Y), L)", "A, B, [a - 1, a - 3, b - 2]")
        self.check(text, "(setof(Y, X ^ p(X, Y), L), p(Z, b))", "A, B, [a, b], 2")
        self.check(text, "bagof(X, p(X, c), L)")
        self.check(text, "bagof(T, q(T, Z), L)", "A, B, [f(B, C), f(B, b)]")
        self.check(text, "aggregate_all(count, p(_, _), N)", "A, B, 3")
        self.check(text, "aggregate_all(sum(X), p(X, a), N)", "A, 4")
        self.check(text, "aggregate_all(max(X), p(X, _), N)", "A, B, 3")
        self.check(text, "aggregate_all(bag(Y), p(_, Y), L)", "A, B, [a, b, a]")
        self.check(text, "aggregate_all(set(Y), p(_, Y), L)", "A, B, [a, b]")
        self.check(text, "aggregate_all(min(X), p(X, c), N)")
        self.check(text, "catch(bagof(X, Y ^ Z, L), error(E, P), true)", "A, B, C, D, instantiation_error, bagof / 3")

    def test_output(self):
        world = program("p(1). p('B c').")
        self.answers(world, "(p(X), write(f(X, Y)), nl, writeq(f(X)), fail)")
        self.assertEqual(world.output(), "f(1, A)\nf(1)f(B c, A)\nf('B c')")

    def test_terms_that_would_hold_themselves(self):
        text = "eq(X, X). p(X, f(X)). q(f(X), X). r(X, Y, g(X, Y), g(Y, X)). s(f(X, Y), f(Y, g(X)))."
        for asked, expected in (("p(X, X)", []), ("q(X, X)", []), ("(p(X, Y), p(Y, X))", []), ("(p(X, Y), q(Y, X))", ["A, f(A)"]), ("r(X, f(X), Y, Y)", []), ("r(X, Y, Z, Z)", ["A, A, g(A, A)"]),
                                ("eq(f(X, Y), f(g(Y), g(X)))", []), ("eq(f(X, Y, Z), f(g(Y), g(Z), W))", ["g(g(A)), g(A), A, A"]), ("s(X, X)", []), ("s(Z, f(X, Y))", ["f(A, B), B, g(A)"]),
                                ("(eq(X, f(Y)), eq(Y, X))", []), ("(eq(X, Y), p(X, Y))", []), ("p(f(X), X)", []), ("(p(X, Z), eq(Z, f(g(X))))", [])):
            self.check(text, asked, *expected)

    def test_towers_of_shared_structures(self):
        many = 60
        names = [(k,) for k in range(2 * many + 2)]

        def tower(first, last):
            return [("d", names[k], names[k + 1]) for k in range(first, last)]

        def conj(goals):
            body = goals[-1]
            for one in reversed(goals[:-1]):
                body = (",", one, body)
            return body

        rows = tower(0, many) + tower(many + 1, 2 * many + 1)
        low, high, other, top = names[0], names[many], names[many + 1], names[2 * many + 1]
        clauses = [("d", (0,), ("f", (0,), (0,))), ("u", ("f", (0,), (0,)), (0,)), ("eq", (0,), (0,))]
        for goals, word in (([("eq", high, top)], "yes"), ([("eq", high, top), ("eq", low, "a"), ("eq", other, "a")], "yes"), ([("eq", high, top), ("eq", low, "a"), ("eq", other, "b")], "no"),
                            ([("eq", low, high)], "no"), ([("eq", low, ("g", high))], "no"), ([("u", high, names[many - 1])], "yes"), ([("u", high, names[many - 2])], "no"),
                            ([("u", high, top)], "yes"), ([("eq", high, ("f", top, top))], "yes"), ([("eq", high, ("f", top, top)), ("eq", other, "a"), ("u", low, "a")], "yes")):
            world = World(clauses + [(":-", "q", conj(rows + goals))])
            self.assertEqual((world.query("q").next()[0], Machine(world, "q").next()[0]), (word, word))

    def test_loops(self):
        world = program("l(0) :- !. l(N) :- M is N - 1, l(M). r([], []). r([X|T], [X|U]) :- r(T, U). c(N, N). c(N, M) :- K is N + 1, c(K, M). w(N) :- between(1, N, X), X >= N, !. "
                        "app([], L, L). app([H|T], L, [H|R]) :- app(T, L, R). rev([], []). rev([H|T], R) :- rev(T, S), app(S, [H], R).")
        for asked in ("l(3000)", "(length(L, 800), r(L, M), L == M, M = [a|_], L = [b|_])", "(c(0, X), X >= 500, !, X =:= 500)", "(w(1000), w(1001))", "(findall(X, between(1, 40, X), L), rev(L, [X|_]), X =:= 40, fail)"):
            query, machine = world.query(goal(asked), limit=10 ** 6), Machine(world, goal(asked), limit=10 ** 6)
            self.assertEqual(machine.next()[0], query.next()[0])
            self.assertEqual(machine.calls(), query.calls())

    def test_runs_by_turns(self):
        world = program("p(1). p(2). p(3).")
        one, other, query = Machine(world, goal("(p(X), assertz(q(X)))")), Machine(world, goal("(p(X), retract(q(Y)))")), world.query(goal("q(X)"))
        self.assertEqual(one.next(), ("yes", [1]))
        self.assertEqual((query.next(), query.next()), (("yes", [1]), ("no",)))
        self.assertEqual(one.next(), ("yes", [2]))
        self.assertEqual(other.next(), ("yes", [1, 1]))
        self.assertEqual(one.next(), ("yes", [3]))
        self.assertEqual(other.next(), ("yes", [1, 2]))
        # What was added behind the first look is not seen by this one, but by the next.
        self.assertEqual(other.next(), ("yes", [2, 3]))
        self.assertEqual((other.next(), one.next()), (("no",), ("no",)))
        steps = [Machine(world, goal("(p(X), p(Y))")) for _ in range(3)]
        results = [[], [], []]
        while any(row[-1:] != [("no",)] for row in results):
            for machine, row in zip(steps, results):
                told = machine.step()
                if told is not None and row[-1:] != [("no",)]:
                    row.append(told)
        self.assertEqual(results, [[("yes", [x, y]) for x in (1, 2, 3) for y in (1, 2, 3)] + [("no",)]] * 3)


class Places(Running):
    def test_where_machines_stand_at_leave_and_collect(self):
        machine = Machine(program("p(1). p(2)."), goal("(catch(p(X), E, true), findall(Y, p(Y), L))"))
        places = []
        while machine.step() is None:
            if machine.place() in ("LEAVE", "COLLECT", "END"):
                places.append((machine.place(), len(machine.frames()), machine.registers(), len(machine.choices())))
        self.assertEqual(places, [("LEAVE", 2, {}, 2), ("COLLECT", 1, {}, 4), ("COLLECT", 1, {}, 3), ("END", 0, {}, 2)])

    def test_frames_of_catch_and_findall(self):
        machine = Machine(program("p(1)."), goal("catch(findall(f(X), p(X), L), E, p(2))"))
        run_to(machine, (("p", 1), 0))
        frames = machine.frames()
        self.assertEqual([(base, len(slots)) for base, slots in frames], [(5, 3), (0, 3)])
        self.assertEqual([slots[0] for _, slots in frames], [("level", 1), ("level", 0)])
        self.assertEqual([(row[0], row[1], sorted(row[2]), row[3], row[4], row[7]) for row in machine.choices()],
                         [("catch", 0, [1, 2, 3], None, 0, 5), ("findall", 0, [1, 2, 3], 0, 1, 10)])

    def test_a_ball_brings_a_machine_back(self):
        machine = Machine(program("p(X) :- q(X, Y), throw(b(Y, f(X))). q(1, 2). q(2, 3)."), goal("catch(p(X), b(Y, Z), r)"))
        run_to(machine, (("q", 2), 0))
        heap, trail = machine.choices()[0][6], machine.choices()[0][5]
        while machine.choices():
            before = (len(machine.heap()), machine.trail(), machine.frames())
            machine.step()
        # It stood within two frames, with bindings noted; heap and trail went back to what the catch found, then the ball was built.
        self.assertEqual((before[0] > heap, len(before[1]), len(before[2])), (True, 2, 1))
        self.assertEqual((machine.heap()[heap:], machine.trail()[:trail], machine.frames(), machine.top()),
                         ([("fun", "b", 2), ("int", 2), ("str", ("h", heap + 3)), ("fun", "f", 1), ("int", 1)], [], [], 0))
        self.assertEqual((machine.place(), machine.registers(), machine.entry()), (((-13, 0), 0), {}, 0))


if __name__ == "__main__":
    unittest.main()
