"""[7.1] to [7.5]: worlds, and programs that change; [8.1], [8.5] to [8.7] in queries."""

import unittest

from hornmill.errors import BadClause
from hornmill.flat import flattened
from hornmill.world import World
from tests.running import Running, goal, program, shown, text_of
from tests.support import Unlike, odd_terms, odd_values

FACTS = "p(1). p(2). p(3). q(a). q(b). r(2, x). r(2, y). r(3, z). age(ann, 5). age(bob, 7). age(cid, 5). "


class Worlds(unittest.TestCase):
    def test_empty(self):
        for world in (World(), World([]), World(())):
            self.assertEqual((world.known(), world.output(), world.clauses(("p", 1)), world.flat(("p", 1))), ([], "", [], []))

    def test_clauses_are_kept_as_stored(self):
        given = [("p", (7,)), (":-", ("q", (3,)), (",", (3,), ("once", (9,)))), ("p", 1), "p", (":-", "p", (";", "a", "b"))]
        for clauses in (given, tuple(given)):
            world = World(clauses)
            self.assertEqual(world.clauses(("p", 1)), [(":-", ("p", (0,)), "true"), (":-", ("p", 1), "true")])
            self.assertEqual(world.clauses(("q", 1)), [(":-", ("q", (0,)), (",", ("call", (0,)), ("once", ("call", (1,)))))])
            self.assertEqual(world.clauses(("p", 0)), [(":-", "p", "true"), (":-", "p", (";", "a", "b"))])
            self.assertEqual(world.known(), [("p", 0), ("p", 1), ("q", 1)])
        self.assertEqual(given[0], ("p", (7,)))

    def test_known_is_sorted(self):
        world = World(["z", ("a", 1, 2), ("a", 1), "a", ("A", 1), "", ("b",) + (1,) * 8])
        self.assertEqual(world.known(), [("", 0), ("A", 1), ("a", 0), ("a", 1), ("a", 2), ("b", 8), ("z", 0)])

    def test_flat_clauses_and_the_counter(self):
        clauses = [(":-", "a", (";", "b", "c")), ("b", 1), (":-", "a", (",", ("\\+", "b"), ("ignore", "c"))), (":-", "d", ("once", "e")),
                   (":-", ("b", (0,)), ("forall", ("c", (0,)), "d"))]
        world = World(clauses)
        flats = []
        counter = 0
        for clause in clauses:
            made = flattened(clause, counter)
            counter += len({flat[0] for flat in made[1:]})
            flats += made
        self.assertEqual(counter, 5)
        for key in {flat[0] for flat in flats}:
            self.assertEqual(world.flat(key), [flat for flat in flats if flat[0] == key])
        world.query(("assertz", (":-", "f", ("\\+", ("g", (0,)))))).next()
        self.assertEqual(world.flat(("f", 0)), [(("f", 0), (), (("call", (5, 0), ()),))])
        self.assertEqual(len(world.flat((5, 0))), 2)
        # Those of a clause that is erased stay.
        world.query(("retract", (":-", "a", (";", "b", "c")))).next()
        self.assertEqual(len(world.flat(("a", 0))), 1)
        self.assertEqual(world.flat((0, 0)), [flat for flat in flats if flat[0] == (0, 0)])
        world.query(("abolish", ("/", "a", 0))).next()
        self.assertEqual((world.flat(("a", 0)), len(world.flat((1, 0)))), ([], 2))

    def test_what_is_no_key_of_the_program(self):
        world = World(["p", ("p", 1), (":-", "q", (";", "a", "b")), (":-", "s", ("\\+", "a"))])
        others = odd_values() + ["p", 1, ("p",), ("p", "1"), ("p", True), ("p", False), ("p", 1.0), ["p", 1], ("p", [1]), ([], 1), ({}, 0),
                                 ("p", 1, 1), ("/", "p", 1), (True, 0), (False, 0), (0.0, 0), (0, False), (2, 0), (-11, 0), ("p", 2), ("zz", 0),
                                 ("p", Unlike()), ("bagof", 3), ("setof", 3), ("aggregate_all", 3), ("is", 2), (",", 2), (-1, 6), (-2, 4)]
        for key in others:
            with self.subTest(kind=str(type(key))):
                self.assertEqual(world.clauses(key), [])
                self.assertEqual(world.flat(key), [])
        self.assertEqual(world.clauses((0, 0)), [])
        self.assertEqual(len(world.flat((0, 0))), 2)

    def test_lists_are_new(self):
        world = World(["p", (":-", "q", (";", "a", "b"))])
        for call, args in ((world.clauses, (("p", 0),)), (world.flat, (("p", 0),)), (world.flat, ((0, 0),)), (world.known, ())):
            before = call(*args)
            call(*args).clear()
            self.assertEqual(call(*args), before)
            self.assertTrue(before)

    def wrong(self, index, why, clauses):
        with self.assertRaises(BadClause) as caught:
            World(clauses)
        self.assertIs(type(caught.exception), BadClause)
        self.assertEqual((caught.exception.index, caught.exception.why), (index, why))

    def test_bad_clauses(self):
        for wrong in odd_values() + ["p", 5, {"p": 1}]:
            self.wrong(-1, "list", wrong)
        good = ["p", ("q", (0,)), (":-", "r", "s")]
        table = [("head", (0,)), ("head", 5), ("head", (":-", 5, "a")), ("head", (":-", (0,), 5)), ("body", (":-", "a", 5)),
                 ("body", (":-", ("is", 1, 2), (",", "a", 5))), ("head", None), ("head", ["p"])]
        table += [("head", wrong) for wrong in odd_terms()]
        for head in (("is", 1, 2), "fail", "true", "!", ("call", 1), (",", 1, 2), ("bagof", 1, 2, 3), ("setof", 1, 2, 3),
                     ("aggregate_all", 1, 2, 3), ("catch", 1, 2, 3), ("assertz", 1), ("=", 1, 2), ("forall", "a", "b")):
            table += [("builtin", head), ("builtin", (":-", head, "a"))]
        for why, clause in table:
            for at in range(3):
                self.wrong(at, why, good[:at] + [clause] + good[at:])
                self.wrong(at, why, tuple(good[:at] + [clause, 5]))

    def test_what_is_near_to_fixed_keys_is_free(self):
        clauses = [("is", 1), "call", ("bagof", 1), ("fail", 1), (":-", 1), ("->", 1), "is"]
        self.assertEqual(len(World(clauses).known()), 7)


class Views(Running):
    """[7.2]: the logical view."""

    def test_calls(self):
        self.check("p(1). p(2).", "p(X), Y is X + 2, assertz(p(Y))", "1, 3", "2, 4")
        self.check("p(1). p(2).", "p(X), asserta(p(0))", "1", "2")
        # What is erased ahead of its turn is still tried by a call.
        self.check("p(1). p(2). p(3).", "p(X), retractall(p(_))", "1, A", "2, A", "3, A")
        self.check("p(1). p(2). p(3).", "p(X), abolish(p / 1)", "1", "2", "3")
        self.check("p(1). p(2). p(3).", "p(X), retract(p(2))", "1")
        self.check("p(1). p(2). p(3).", "p(X), ignore(retract(p(2)))", "1", "2", "3")
        self.check("l :- assertz(l), fail. l.", "l", "yes")
        self.check("p(1).", "p(X), (retract(p(1)), assertz(p(2)) ; p(X))", "1")

    def test_clause(self):
        self.check("p(1). p(2). p(3).", "clause(p(X), true), retractall(p(2))", "1", "3")
        self.check("p(1). p(2). p(3).", "clause(p(X), true), assertz(p(9))", "1", "2", "3")
        self.check("p(1). p(2). p(3).", "clause(p(X), true), retractall(p(_))", "1, A")
        self.check("p(1). p(2). p(3).", "clause(p(X), true), abolish(p / 1)", "1")

    def test_retract(self):
        self.check("p(1). p(2). p(3).", "retract(p(X))", "1", "2", "3")
        self.check("p(1). p(2). p(3).", "retract(p(X)), X > 1, !, p(Y)", "2, 3")
        self.check("p(1). p(2). p(3).", "retract(p(X)), retractall(p(2))", "1", "3")
        self.check("p(1). p(2).", "retract(p(X)), Y is X + 2, assertz(p(Y))", "1, 3", "2, 4")
        self.check("p(1). p(2). p(3).", "retract(p(X)), retract(p(Y))", "1, 2", "1, 3")

    def test_queries_by_turns(self):
        world = program("p(1). p(2). p(3).")
        one, other = world.query(goal("p(X)")), world.query(goal("retract(p(X))"))
        third = world.query(goal("clause(p(X), true)"))
        told = [shown(query.next()) for query in (one, third, other, one, third, other, one, third, other, one)]
        self.assertEqual(told, ["1", "1", "1", "2", "2", "2", "3", "3", "3", "no"])
        world = program("p(1). p(2). p(3).")
        one, other = world.query(goal("p(X)")), world.query(goal("retract(p(X))"))
        self.assertEqual([shown(other.next()), shown(other.next())], ["1", "2"])
        self.assertEqual([shown(one.next()), shown(one.next())], ["3", "no"])
        world.query(goal("assertz(p(4))")).next()
        self.assertEqual([shown(other.next()), shown(other.next())], ["3", "no"])
        self.assertEqual(self.answers(world, "p(X)"), ["4"])

    def test_a_query_sees_what_was_there_at_the_call_not_when_it_was_made(self):
        world = program("p(1).")
        query = world.query(goal("p(X)"))
        world.query(goal("assertz(p(2))")).next()
        self.assertEqual([shown(query.next()), shown(query.next())], ["1", "2"])

    def test_a_loop_that_counts(self):
        world = program("n(0). step :- retract(n(X)), Y is X + 1, assertz(n(Y)). run(0) :- !. run(N) :- step, M is N - 1, run(M).")
        self.check(world, "run(500), n(X)", "500")


class Databases(Running):
    def test_errors_in_queries(self):
        self.check("", "assertz(X)", "thrown error(instantiation_error, assertz / 1)")
        self.check("", "assertz((a :- 1))", "thrown error(type_error(callable, 1), assertz / 1)")
        self.check("", "asserta((bagof(_, _, _) :- true))",
                   "thrown error(permission_error(modify, static_procedure, bagof / 3), asserta / 1)")
        self.check("", "clause(setof(_, _, _), B)", "thrown error(permission_error(access, private_procedure, setof / 3), clause / 2)")
        self.check("", "retract((a, b))", "thrown error(permission_error(modify, static_procedure, ',' / 2), retract / 1)")
        self.check("", "abolish(foo / (-1))", "thrown error(domain_error(not_less_than_zero, -1), abolish / 1)")

    def test_what_was_done_stays_behind_failing(self):
        world = program("p(1).")
        self.check(world, "assertz(p(2)), fail")
        self.check(world, "p(X)", "1", "2")
        self.check(world, "retract(p(1)), throw(a)", "thrown a")
        self.check(world, "p(X)", "2")

    def test_bodies_with_constructs(self):
        world = program("p(1). p(2). p(3).")
        self.check(world, "assertz((t(X) :- (p(X), X > 1 -> true ; X = 0))), t(Y)", "A, 2")
        self.check(world, "assertz((u(G) :- G, !)), u(p(X))", "A, 1")
        self.assertEqual(world.clauses(("u", 1)), [(":-", ("u", (0,)), (",", ("call", (0,)), "!"))])

    def test_a_program_that_is_built_means_the_same(self):
        text = "p(1). p(X) :- q(X), X > 3, !. p(9). q(2). q(4). q(5). s(X, Y) :- (p(X) ; q(X)), \\+ X = 2, findall(Z, q(Z), Y). s(0, [])."
        whole = program(text)
        clauses = [(clause[1] if clause[2] == "true" else clause) for key in whole.known() for clause in whole.clauses(key)]
        forwards, backwards = World(), World()
        for clause in clauses:
            self.assertEqual(forwards.query(("assertz", clause)).next()[0], "yes")
        for clause in reversed(clauses):
            self.assertEqual(backwards.query(("asserta", clause)).next()[0], "yes")
        for world in (forwards, backwards):
            self.assertEqual(world.known(), whole.known())
            for key in world.known():
                self.assertEqual(world.clauses(key), whole.clauses(key))
            for asked in ("p(X)", "q(X)", "s(X, Y)"):
                self.assertEqual(self.answers(world, asked), self.answers(whole, asked))

    def test_clause_tells_a_variant_of_what_was_added(self):
        for text in ("p(X, Y, X)", "p(X, Y, Y) :- q(Y, Z), (X -> Z ; fail), once(Y)"):
            world = program("")
            query = world.query(goal(f"assertz(({text})), clause(p(A, B, C), Body)"))
            row = query.next()[1]
            self.assertEqual(text_of((":-", ("p", *row[-4:-1]), row[-1])),
                             text_of(program(text + ".").clauses(("p", 3))[0]))

    def test_output(self):
        world = program("p(1). p(2).")
        query = world.query(goal("p(X), writeq(f(X, Y, 'A b')), nl, write('A b'), fail"))
        self.assertEqual(query.next(), ("no",))
        self.assertEqual(world.output(), "f(1, A, 'A b')\nA bf(2, A, 'A b')\nA b")
        world.query(goal("write(x), throw(y)")).next()
        world.query(goal("nl")).next()
        self.assertTrue(world.output().endswith("A bx\n"))


class Solutions(Running):
    """[8.5] to [8.7]"""

    def test_bagof(self):
        self.check(FACTS, "bagof(X, p(X), L)", "A, [1, 2, 3]")
        self.check(FACTS, "bagof(N, age(N, A), L)", "A, 5, [ann, cid]", "A, 7, [bob]")
        self.check(FACTS, "bagof(N, A ^ age(N, A), L)", "A, B, [ann, bob, cid]")
        self.check(FACTS, "bagof(A, N ^ age(N, A), L)", "A, B, [5, 7, 5]")
        self.check(FACTS, "bagof(X, p(9), L)")
        self.check(FACTS, "bagof(X, fail, L)")
        self.check(FACTS, "bagof(X, p(X), [A|B])", "A, 1, [2, 3]")
        self.check(FACTS, "bagof(N, age(N, 5), L)", "A, [ann, cid]")
        self.check(FACTS, "A = 7, bagof(N, age(N, A), L)", "7, A, [bob]")
        self.check(FACTS, "bagof(N - A, age(N, A), L)", "A, B, [ann - 5, bob - 7, cid - 5]")

    def test_setof(self):
        self.check(FACTS, "setof(A, N ^ age(N, A), L)", "A, B, [5, 7]")
        self.check(FACTS, "setof(N, age(N, A), L)", "A, 5, [ann, cid]", "A, 7, [bob]")
        self.check("p(c). p(a). p(b). p(a).", "setof(X, p(X), L)", "A, [a, b, c]")
        self.check(FACTS, "setof(X, p(9), L)")
        self.check("s(1, b). s(1, a). s(2, c).", "setof(X - L, setof(Y, s(X, Y), L), M)", "A, B, C, [1 - [a, b], 2 - [c]]")

    def test_variants_as_witnesses(self):
        self.check("w(_, 1). w(a, 2). w(_, 3). w(b, 4).", "bagof(X, w(V, X), L)", "A, B, [1, 3]", "A, a, [2]", "A, b, [4]")
        self.check("w(f(X), X). w(f(a), b). w(f(Y), g(Y)).", "bagof(X, w(V, X), L)", "A, f(B), [B, g(B)]", "A, f(a), [b]")

    def test_errors(self):
        for word in ("bagof", "setof"):
            self.check("", f"{word}(X, G, L)", f"thrown error(instantiation_error, {word} / 3)")
            self.check("", f"{word}(X, Y ^ G, L)", f"thrown error(instantiation_error, {word} / 3)")
            self.check("", f"{word}(X, 5, L)", f"thrown error(type_error(callable, 5), {word} / 3)")
            self.check("", f"{word}(X, true, none)", f"thrown error(type_error(list, none), {word} / 3)")
            self.check("", f"{word}(X, (true, 1), L)", "thrown error(type_error(callable, (true, 1)), call / 1)")
            self.check("", f"{word}(X, nobody, L)", "thrown error(existence_error(procedure, nobody / 0), nobody / 0)")
        self.check("", "aggregate_all(K, G, R)", "thrown error(instantiation_error, aggregate_all / 3)")
        self.check("", "aggregate_all(total, true, R)", "thrown error(domain_error(aggregate, total), aggregate_all / 3)")
        self.check("", "aggregate_all(count, G, R)", "thrown error(instantiation_error, aggregate_all / 3)")
        self.check("", "aggregate_all(count, 5, R)", "thrown error(type_error(callable, 5), aggregate_all / 3)")
        self.check("", "aggregate_all(sum(X), X = a, R)", "thrown error(type_error(evaluable, a / 0), aggregate_all / 3)")
        self.check("", "^(X, true)", "thrown error(existence_error(procedure, '^' / 2), '^' / 2)")

    def test_aggregate_all(self):
        for kind, expected in (("count", "3"), ("sum(X)", "6"), ("max(X)", "3"), ("min(X)", "1"), ("bag(X)", "[1, 2, 3]"),
                               ("set(X)", "[1, 2, 3]"), ("sum(X * X)", "14"), ("max(-X)", "-1")):
            self.check(FACTS, f"aggregate_all({kind}, p(X), R)", ", ".join(["A", expected]))
        self.check(FACTS, "aggregate_all(count, p(9), R)", "0")
        self.check(FACTS, "aggregate_all(sum(1), p(9), R)", "0")
        self.check(FACTS, "aggregate_all(max(1), p(9), R)")
        self.check(FACTS, "aggregate_all(min(1), p(9), R)")
        self.check(FACTS, "aggregate_all(bag(1), p(9), R)", "[]")
        self.check(FACTS, "aggregate_all(set(A), age(N, A), R)", "A, B, [5, 7]")
        self.check(FACTS, "aggregate_all(count, p(X), 3)", "A")
        self.check(FACTS, "aggregate_all(count, p(X), 4)")

    def test_calls_of_the_library_are_not_counted(self):
        for text in ("bagof(X, true, L)", "setof(X, true, L)", "aggregate_all(count, true, L)"):
            query = World().query(goal(text), limit=0)
            self.assertEqual([query.next()[0], query.calls()], ["yes", 0])
        query = program(FACTS).query(goal("bagof(X, p(X), L)"), limit=1)
        self.assertEqual([query.next()[0], query.calls(), query.choices(), query.is_open()], ["yes", 1, 2, False])
        query = program(FACTS).query(goal("bagof(N, age(N, A), L)"))
        self.assertEqual([query.next()[0], query.calls(), query.choices(), query.is_open()], ["yes", 1, 3, True])

    def test_facts(self):
        for text in ("p(X)", "p(9)", "age(X, Y)", "(p(X) ; q(X))", "r(X, Y), r(X, Z)", "(X = f(Y) ; X = f(Z))"):
            world = program(FACTS)
            every = self.answers(world, f"findall(X, ({text}), L), aggregate_all(count, ({text}), N), length(L, N)")
            self.assertEqual(len(every), 1)
            found = world.query(goal(f"X = X, bagof(X, ({text}), L)"))
            many = 0
            while True:
                result = found.next()
                if result[0] != "yes":
                    break
                row = result[1]
                many += text_of(row[-1]).count(",") + 1 if "f(" not in text else 0
                self.assertEqual(row[0], (0,))
            self.assertEqual(result, ("no",))
            wanted = world.query(goal(f"aggregate_all(count, ({text}), N)")).next()[1][-1]
            if "f(" not in text:
                self.assertEqual(many, wanted)


if __name__ == "__main__":
    unittest.main()
