"""[14.3], [14.4], [14.6]: collecting."""

import unittest

from hornmill.collect import collect
from hornmill.machine import Machine
from hornmill.reach import frames_behind, is_at_clause, reached
from hornmill.world import World
from tests.running import goal, program
from tests.support import chance
from tests.test_flat_run import some_clause, some_goal
from tests.test_machine import told
from tests.test_reach import heap, machine_at, restored


def shape(machine):
    """What a collect leaves as it is."""
    found = told(machine)
    counts = [found[name] for name in ("n_calls", "n_choices", "most_standing", "most_stack", "place", "top", "entry")]
    return counts, [(row[0], row[1], sorted(row[2]), row[3], row[4], row[7]) for row in machine.choices()], [(base, len(slots)) for base, slots in machine.frames()]


def whole(machine):
    """All that a machine tells, and all places of its stack."""
    store = machine.engine.store
    return told(machine), [store.at(("s", k)) for k in range(store.stack_size)]


def terms(machine, i=None):
    """The terms that registers, slots that are filled, and the goal stand for, now or behind a choice point."""
    machine = machine if i is None else restored(machine, i)
    cells = [cell for _, cell in sorted(machine.registers().items())] + [cell for _, slots in machine.frames() for cell in slots] + list(machine.engine.shown)
    size = len(machine.heap())
    here = [cell for cell in cells if cell[0] not in ("none", "level") and (cell[0] == "con" or cell[0] == "int" or cell[1][0] == "s" or cell[1][1] < size)]
    here = [cell for cell in here if cell[0] != "ref" or machine.engine.store.end(cell)[0] != "fun"]
    return machine.engine.store.read(here)[0]


class Collecting(unittest.TestCase):
    def test_cells_move_together(self):
        # The clause of p gets an argument of f alone; the functor cell of f and the other arguments go.
        machine = machine_at("q(f(A, g(B), C), X) :- r(B, X, C). r(_, _, _).", "q(f(1, g(h(Y)), Z), X)", (("r", 3), 0))
        self.assertEqual(machine.heap(), [("ref", ("h", 0)), ("ref", ("h", 1)), ("ref", ("h", 2)), ("fun", "h", 1), ("ref", ("h", 0)), ("fun", "g", 1), ("str", ("h", 3)), ("fun", "f", 3), ("int", 1),
                                          ("str", ("h", 5)), ("ref", ("h", 1))])
        self.assertEqual(machine.registers(), {1: ("str", ("h", 3)), 2: ("ref", ("h", 2)), 3: ("ref", ("h", 1))})
        self.assertEqual(collect(machine), 6)
        self.assertEqual((machine.heap(), machine.registers()), ([("ref", ("h", 0)), ("ref", ("h", 1)), ("ref", ("h", 2)), ("fun", "h", 1), ("ref", ("h", 0))],
                                                                 {1: ("str", ("h", 3)), 2: ("ref", ("h", 2)), 3: ("ref", ("h", 1))}))
        self.assertEqual(machine.next(), ("yes", [(0,), (1,), (2,)]))

    def test_references_are_changed_everywhere(self):
        text = "p(X) :- n(f(g(1), 2)), q(A), r(B, h(A, B), X), s(X, B). n(_). q(k(3)). q(k(4)). r(A, B, B). r(_, _, _). s(_, _) :- t. t."
        machine = machine_at(text, "p(X)", (("r", 3), 0))
        self.assertEqual(machine.heap()[:7], [("ref", ("h", 0)), ("fun", "g", 1), ("int", 1), ("fun", "f", 2), ("str", ("h", 1)), ("int", 2), ("fun", "k", 1)])
        before = [row[6] for row in machine.choices()]
        found = [terms(machine), terms(machine, 0), terms(machine, 1)]
        self.assertEqual((before[0], collect(machine)), (6, 5))
        self.assertEqual(([row[6] for row in machine.choices()], [terms(machine), terms(machine, 0), terms(machine, 1)]), ([1, before[1] - 5], found))
        self.assertEqual(machine.heap()[:3], [("ref", ("h", 0)), ("fun", "k", 1), ("int", 3)])
        # The slot of A and both references to the place of B have moved.
        self.assertEqual([cell for _, slots in machine.frames() for cell in slots], [("ref", ("h", 0)), ("ref", ("h", 5))])
        self.assertEqual(machine.choices()[1][2], machine.registers())
        self.assertEqual([machine.next() for _ in range(5)], [("yes", [("h", ("k", 3), (0,))]), ("yes", [(0,)]), ("yes", [("h", ("k", 4), (0,))]), ("yes", [(0,)]), ("no",)])

    def test_the_trail(self):
        # X is noted behind the choice point of q; the place of Y, which is noted likewise, is reached no more in any state that has it unbound.
        text = "p(X) :- q(X), r. q(1). q(2). r :- s(Y), t(Y). r. s(f(Z)) :- u(Z). u(5). u(6). t(_) :- v. v."
        machine = machine_at(text, "p(X)", (("v", 0), 0))
        choices = [(row[0], row[5], row[6]) for row in machine.choices()]
        self.assertEqual([row[0] for row in choices], [("q", 1), ("r", 0), ("u", 1)])
        trail = machine.trail()
        self.assertEqual((trail[0], len(trail) >= 2), (("h", 0), True))
        for i in range(3):
            self.assertEqual(("h", 0) in reached(machine, i), True)
        collect(machine)
        self.assertEqual([row[5] for row in machine.choices()], [0, 1, 1])
        self.assertEqual(machine.trail()[0], ("h", 0))
        self.assertEqual([machine.next() for _ in range(7)], [("yes", [1])] * 3 + [("yes", [2])] * 3 + [("no",)])

    def test_entries_that_go(self):
        # Behind a cut the entry of X stands for no choice point any more.
        machine = machine_at("p(X) :- q(X), !, r. q(1). q(2). r.", "p(X)", (("r", 0), 0))
        self.assertEqual((machine.trail(), machine.choices()), ([("h", 0)], []))
        self.assertEqual((collect(machine), machine.trail(), machine.heap()), (0, [], [("int", 1)]))
        self.assertEqual(machine.next(), ("yes", [1]))

    def test_a_place_that_is_set_back(self):
        # The goal's first clause binds the variable within f and forgets f; only the second clause, come to by failing, looks at it.
        text = "p :- q(f(X)). q(f(X)) :- b(X), c. q(f(X)) :- var(X). b(g(1, 2)). c :- d. d."
        machine = machine_at(text, "p", (("d", 0), 0))
        self.assertEqual((machine.heap(), machine.trail()), ([("fun", "f", 1), ("str", ("h", 2)), ("fun", "g", 2), ("int", 1), ("int", 2)], [("h", 1)]))
        self.assertEqual((reached(machine, None), reached(machine, 0)), ([], heap(0, 1)))
        self.assertEqual(collect(machine), 3)
        self.assertEqual((machine.heap(), machine.trail(), machine.choices()[0][5:7]), ([("fun", "f", 1), ("ref", ("h", 1))], [], (0, 2)))
        self.assertEqual((machine.next(), machine.next(), machine.next()), (("yes", []), ("yes", []), ("no",)))

    def test_a_place_that_is_needed_behind_a_later_choice_point_is_not_set_back(self):
        text = "p :- q(f(X)). q(f(X)) :- b(X), e(X), c. q(f(X)) :- var(X). b(g(1, 2)). e(g(_, _)). e(_) :- fail. c :- d. d."
        machine = machine_at(text, "p", (("d", 0), 0))
        self.assertEqual([row[0] for row in machine.choices()], [("q", 1), ("e", 1)])
        self.assertEqual((reached(machine, None), reached(machine, 0), reached(machine, 1)), ([], heap(0, 1), heap(1, 2, 3, 4) + [address for address in reached(machine, 1) if address[0] == "s"]))
        self.assertEqual((collect(machine), machine.trail(), machine.heap()[1]), (0, [("h", 1)], ("str", ("h", 2))))
        self.assertEqual((machine.next(), machine.next(), machine.next()), (("yes", []), ("yes", []), ("no",)))

    def test_places_of_the_stack(self):
        text = "p :- q(X), r(f(Y), g(Z)), t(X, Y). q(1). q(2). r(f(7), _) :- u. u. t(2, 7)."
        machine = machine_at(text, "p", (("q", 1), 0), 2)
        # The slot of Y, filled before, refers to a place that the heap does not have any more.
        self.assertEqual((machine.frames(), machine.heap()), ([(0, [("ref", ("s", 2)), ("ref", ("h", 1))])], []))
        self.assertEqual(collect(machine), 0)
        self.assertEqual(machine.frames(), [(0, [("ref", ("s", 2)), ("none",)])])
        self.assertEqual(machine.next(), ("yes", []))
        # What stands above all frames goes.
        machine = machine_at("p :- q(X, Y), r(X, Y). q(f(_), 3) :- s, s. s. r(_, _) :- u. u.", "p", (("u", 0), 0))
        self.assertEqual(machine.frames(), [])
        self.assertTrue(any(cell != ("none",) for cell in whole(machine)[1]))
        collect(machine)
        self.assertEqual((set(whole(machine)[1]), machine.heap()), ({("none",)}, []))

    def test_nothing_to_do(self):
        machine = machine_at("p(1). p(2).", "p(X)", (("p", 1), 0))
        before = whole(machine)
        self.assertEqual((collect(machine), whole(machine)), (0, before))

    def test_results_of_a_findall_stay(self):
        machine = machine_at("p(1, f(X)). p(2, f(Y)). q(X) :- r. r.", "findall(X - Y, (p(X, Y), q(Y)), L)", (("r", 0), 0), 2)
        collect(machine)
        self.assertEqual(machine.next(), ("yes", [(0,), (1,), (".", ("-", 1, ("f", (2,))), (".", ("-", 2, ("f", (3,))), "[]"))]))


PROGRAM = """
app([], L, L). app([H|T], L, [H|R]) :- app(T, L, R).
rev([], []). rev([H|T], R) :- rev(T, S), app(S, [H], R).
range(N, N, [N]) :- !. range(M, N, [M|T]) :- M < N, K is M + 1, range(K, N, T).
queens(N, Qs) :- range(1, N, Ns), sel(Ns, [], Qs).
sel([], Qs, Qs). sel(Un, Safe, Qs) :- select(Q, Un, Rest), \\+ attack(Q, Safe), sel(Rest, [Q|Safe], Qs).
select(X, [X|T], T). select(X, [H|T], [H|R]) :- select(X, T, R).
attack(X, Xs) :- attack(X, 1, Xs). attack(X, N, [Y|_]) :- X is Y + N ; X is Y - N. attack(X, N, [_|Ys]) :- M is N + 1, attack(X, M, Ys).
perm([], []). perm(L, [H|T]) :- select(H, L, R), perm(R, T).
c(X) :- catch(d(X), E, X = E). d(X) :- ( X = 1 ; X = 2 ; throw(ball(X, _)) ).
pair(X - Y) :- c(X), c(Y), f(X, Y, Z), g(Z). f(X, Y, h(X, Y, W)) :- member(W, [a, V, V]). member(X, [X|_]). member(X, [_|T]) :- member(X, T). g(h(_, _, _)).
col(1, 1, [1]) :- !. col(N, S, [N|T]) :- ( N mod 2 =:= 0 -> M is N // 2 ; M is 3 * N + 1 ), col(M, R, T), S is R + 1.
loop(0, _) :- !. loop(N, A - B) :- M is N - 1, loop(M, B - A).
"""
GOALS = ("(range(1, 9, L), rev(L, R))", "queens(4, Q)", "perm([1, 2, 3], P)", "pair(P)", "(findall(P, perm([1, 2, 3], P), L), member([3|X], L))", "col(7, S, L)", "bagof(X - Y, (member(X, [1, 2]), member(Y, [a, b])), L)",
         "setof(X, member(X - Y, [3 - a, 1 - b, 2 - a]), L)", "(c(A), c(B), catch(throw(x(A, B, C)), x(P, Q, R), true))", "loop(30, f(X) - g(Y))", "(member(X, [1, 2, 3]), \\+ X = 2, once(member(Y, [X, 5])))")


class Runs(unittest.TestCase):
    def compared(self, one, other, rng, often, most):
        """Step two machines, one of them with collects now and then; return how many cells these removed."""
        removed = 0
        for _ in range(most):
            if is_at_clause(other) and rng.random() < often:
                removed += self.checked_collect(other)
            result = one.step()
            self.assertEqual((other.step(), shape(other)), (result, shape(one)))
            if result is not None and result[0] != "yes":
                break
        return removed

    def checked_collect(self, machine):
        states = [None] + list(range(len(machine.choices())))
        size, before, found, before_shape = len(machine.heap()), [reached(machine, i) for i in states], [terms(machine, i) for i in states], shape(machine)
        removed = collect(machine)
        self.assertEqual((size - removed, shape(machine)), (len(machine.heap()), before_shape))
        self.assertEqual([terms(machine, i) for i in states], found)
        # The reached places are the same, moved: their order stays.
        kept = sorted({address for row in before for address in row})
        moved = {address: ("h", at) if address[0] == "h" else address for at, address in enumerate(kept)}
        self.assertEqual([reached(machine, i) for i in states], [[moved[address] for address in row] for row in before])
        self.assertEqual(len(machine.heap()), len([address for address in kept if address[0] == "h"]))
        after = whole(machine)
        self.assertEqual((collect(machine), whole(machine)), (0, after))
        for cell in machine.heap():
            self.assertNotEqual(cell, ("none",))
            self.assertTrue(cell[0] not in ("ref", "str") or (cell[1][0] == "h" and cell[1][1] < len(machine.heap())))
        return removed

    def test_programs(self):
        rng = chance(14)
        removed = 0
        for asked in GOALS:
            for often in (1, .2):
                removed += self.compared(Machine(program(PROGRAM), goal(asked)), Machine(program(PROGRAM), goal(asked)), rng, often, 700 if often == 1 else 1500)
        self.assertGreater(removed, 1000)

    def test_by_chance(self):
        removed = 0
        for seed in range(250):
            rng = chance(seed)
            clauses = [some_clause(rng) for _ in range(rng.randint(1, 7))]
            asked = some_goal(rng, 3)
            one, other = World(clauses), World(clauses)
            with self.subTest(seed=seed):
                removed += self.compared(Machine(one, asked, limit=20), Machine(other, asked, limit=20), rng, rng.choice([1, .3]), 250)
                self.assertEqual((one.output(), [one.clauses(key) for key in one.known()]), (other.output(), [other.clauses(key) for key in other.known()]))
        self.assertGreater(removed, 200)

    def test_loops_have_a_bounded_heap(self):
        text = "l(0, _) :- !. l(N, f(A, B)) :- M is N - 1, g(B, A, C), l(M, C). g(X, Y, f(X, Y)). n([], 0). n([_|T], N) :- n(T, M), N is M + 1."
        most = {}
        for many in (50, 400):
            machine = Machine(program(text), goal(f"l({many}, f(h(X), Y))"), limit=10 ** 5)
            most[many] = 0
            while machine.step() is None:
                if is_at_clause(machine):
                    collect(machine)
                    most[many] = max(most[many], len(machine.heap()))
        self.assertEqual(most[50], most[400])
        self.assertLess(machine.counts()["heap"], 40)
        plain = Machine(program(text), goal("l(400, f(h(X), Y))"))
        plain.next()
        self.assertGreater(plain.counts()["heap"], 400)

    def test_frames_behind_a_collect(self):
        machine = Machine(program(PROGRAM), goal("queens(4, Q)"))
        for _ in range(300):
            machine.step()
            if is_at_clause(machine):
                before = [[(base, len(slots)) for base, slots in frames_behind(machine, i)] for i in range(len(machine.choices()))]
                collect(machine)
                self.assertEqual([[(base, len(slots)) for base, slots in frames_behind(machine, i)] for i in range(len(machine.choices()))], before)


if __name__ == "__main__":
    unittest.main()
