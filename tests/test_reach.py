"""[14.1], [14.2], [14.5]: machines at clauses, their states, and what is reached in them."""

import copy
import unittest

from hornmill.collect import collect
from hornmill.errors import BadValue
from hornmill.machine import Machine
from hornmill.reach import frames_behind, is_at_clause, reached
from tests.running import goal, program
from tests.support import odd_values
from tests.test_machine import run_to


def heap(*places):
    return [("h", k) for k in places]


def stack(*places):
    return [("s", k) for k in places]


def machine_at(text, asked, place, times=1):
    """A machine that has come to a place so many times."""
    machine = Machine(program(text), goal(asked))
    run_to(machine, place)
    for _ in range(times - 1):
        machine.step()
        run_to(machine, place)
    return machine


class AtClauses(unittest.TestCase):
    def test_is_at_clause(self):
        machine = Machine(program("p(X) :- q(X), q(X). q(1)."), goal("(catch(p(X), E, true), findall(Y, p(Y), L))"))
        found = [is_at_clause(machine)]
        while machine.step() is None:
            self.assertIs(is_at_clause(machine), isinstance(machine.place(), tuple) and machine.place()[1] == 0)
            found.append(is_at_clause(machine))
        self.assertEqual((found.count(True), is_at_clause(machine)), (9, False))
        machine.next()
        self.assertIs(is_at_clause(machine), False)

    def test_errors_of_machines_that_stand_elsewhere(self):
        machine = Machine(program("p(1). p(2)."), goal("(catch(p(X), E, true), findall(Y, p(Y), L))"))
        seen = set()
        result = None
        while result is None:
            if is_at_clause(machine):
                reached(machine, None)
            else:
                place = machine.place()
                seen.add(place if isinstance(place, str) else type(place).__name__)
                before = (machine.heap(), machine.registers(), machine.choices(), machine.frames())
                for call in (lambda: frames_behind(machine, 0), lambda: reached(machine, None), lambda: reached(machine, 0), lambda: collect(machine), lambda: reached(machine, "x"),
                             lambda: frames_behind(machine, None)):
                    with self.assertRaises(BadValue) as caught:
                        call()
                    self.assertEqual(caught.exception.why, "machine")
                self.assertEqual((machine.heap(), machine.registers(), machine.choices(), machine.frames()), before)
            result = machine.step()
        self.assertEqual(seen, {"NoneType", "END", "LEAVE", "COLLECT", "tuple"})

    def test_errors_of_choices(self):
        machine = machine_at("p(1). p(2). q(3). q(4).", "(p(X), q(Y))", (("q", 1), 0))
        self.assertEqual(len(machine.choices()), 2)
        for wrong in odd_values() + [2, 3, -1, -2, 10 ** 20, "0", (0,), [0], ("h", 0)]:
            with self.subTest(kind=str(type(wrong))):
                with self.assertRaises(BadValue) as caught:
                    frames_behind(machine, wrong)
                self.assertEqual(caught.exception.why, "choice")
                if wrong is not None:
                    with self.assertRaises(BadValue) as caught:
                        reached(machine, wrong)
                    self.assertEqual(caught.exception.why, "choice")
        machine = machine_at("p(1).", "p(X)", (("p", 1), 0))
        self.assertRaises(BadValue, frames_behind, machine, 0)
        self.assertEqual(reached(machine, None), heap(0))


def restored(machine, i):
    """A copy of a machine that has failed to choice point i, all later ones being gone."""
    engine = copy.deepcopy(machine.engine, {id(machine.engine.world): machine.engine.world})
    engine.cut(i + 1)
    engine.restore(engine.points[i])
    other = copy.copy(machine)
    other.engine = engine
    return other


def slow_reached(machine):
    """[14.2] of the state that a machine has now."""
    cells = machine.heap()
    found, waiting = set(), list(machine.registers().values()) + list(machine.engine.shown)
    for base, slots in machine.frames():
        found |= {("s", base + 2 + at) for at in range(len(slots))}
        waiting += slots
    while waiting:
        word, *rest = waiting.pop()
        places = []
        if word == "ref":
            places = [rest[0]]
        if word == "str":
            first = rest[0][1]
            places = heap(*range(first, first + cells[first][2] + 1))
        for kind, k in places:
            if (kind, k) not in found and (kind == "s" or k < len(cells)):
                found.add((kind, k))
                waiting.append(cells[k] if kind == "h" else machine.engine.store.at((kind, k)))
    return sorted(found)


class Frames(unittest.TestCase):
    def test_frames_behind(self):
        # X has slot 2, which the call of r gives up; Y has slot 1, filled behind the choice point of q.
        text = "p(X) :- q(X), r(X, Y), s(Y). q(1). q(2). r(1, 3). r(1, 4). s(5). s(6)."
        machine = machine_at(text, "(p(X), true)", (("r", 2), 0))
        self.assertEqual([row[0] for row in machine.choices()], [("q", 1), ("r", 2)])
        self.assertEqual(machine.frames(), [(0, [("ref", ("s", 2))])])
        self.assertEqual((frames_behind(machine, 0), frames_behind(machine, 1)), ([(0, [("ref", ("s", 2)), ("ref", ("h", 0))])], [(0, [("ref", ("s", 2))])]))
        behind = frames_behind(machine, 0)
        run_to(machine, (("q", 1), 0))
        self.assertEqual(machine.frames(), behind)

    def test_slots_that_were_bound_since(self):
        text = "p :- q(X), r(X). q(1). q(2). r(X) :- s, t. r(3). s. s. t."
        machine = machine_at(text, "p", (("s", 0), 0))
        self.assertEqual([row[0] for row in machine.choices()], [("q", 1), ("s", 0)])
        self.assertEqual((machine.frames(), frames_behind(machine, 0), frames_behind(machine, 1)), ([(3, [])], [(0, [("ref", ("s", 2))])], [(3, [])]))

    def test_fewer_slots_count_later(self):
        text = "p(A, B) :- q(C), r(A), r(B), r(C). q(1). q(2). r(_)."
        machine = machine_at(text, "p(a, b)", (("r", 1), 0))
        self.assertEqual([len(slots) for _, slots in machine.frames()], [2])
        self.assertEqual(frames_behind(machine, 0), [(0, [("ref", ("s", 2)), ("con", "b"), ("con", "a")])])
        machine.step()
        run_to(machine, (("r", 1), 0))
        self.assertEqual((machine.frames(), frames_behind(machine, 0)), ([(0, [("int", 1)])], [(0, [("ref", ("s", 2)), ("con", "b"), ("con", "a")])]))

    def test_frames_of_catch_and_findall(self):
        machine = machine_at("p(1). p(2).", "(catch(p(X), E, true), findall(Y, p(Y), L), p(X))", (("p", 1), 0), 2)
        self.assertEqual([row[0] for row in machine.choices()], ["catch", ("p", 1), "findall", ("p", 1)])
        self.assertEqual([[base for base, _ in frames_behind(machine, i)] for i in range(4)], [[0], [5, 0], [0], [10, 0]])

    def test_lists_are_new(self):
        machine = machine_at("p :- q(X), r(X). q(1). q(2). r(_).", "p", (("q", 1), 0))
        for row in (frames_behind(machine, 0), frames_behind(machine, 0)[0][1], reached(machine, 0), reached(machine, None)):
            row.clear()
        self.assertEqual((frames_behind(machine, 0), reached(machine, 0)), ([(0, [("ref", ("s", 2))])], stack(2)))


class Reached(unittest.TestCase):
    def test_registers_and_the_goal(self):
        machine = machine_at("p(_, _).", "p(f(X, a), Y)", (("p", 2), 0))
        self.assertEqual(machine.registers(), {1: ("str", ("h", 2)), 2: ("ref", ("h", 1))})
        self.assertEqual(reached(machine, None), heap(0, 1, 2, 3, 4))
        machine = machine_at("p :- q(f(g(1), X, X)). q(f(A, B, C)) :- r(B). r(_).", "p", (("q", 1), 0))
        self.assertEqual((len(machine.heap()), reached(machine, None)), (6, heap(0, 1, 2, 3, 4, 5)))
        # An argument that is reached by a reference alone is reached without its functor cell.
        run_to(machine, (("r", 1), 0))
        self.assertEqual((machine.registers(), reached(machine, None)), ({1: ("ref", ("h", 4))}, heap(4)))
        # The cell of an argument that is no variable is what a register gets.
        machine = machine_at("p :- q(f(g(1), 2)). q(f(A, B)) :- r(A). r(_).", "p", (("r", 1), 0))
        self.assertEqual((machine.registers(), reached(machine, None), len(machine.heap())), ({1: ("str", ("h", 0))}, heap(0, 1), 5))

    def test_slots_and_references(self):
        machine = machine_at("p :- q(X), r(X, Y), s(Y). q(_). r(A, f(A)). s(_).", "p", (("s", 1), 0))
        self.assertEqual((machine.registers(), machine.heap(), machine.frames()), ({1: ("str", ("h", 1))}, [("ref", ("h", 0)), ("fun", "f", 1), ("ref", ("h", 0))], []))
        self.assertEqual(reached(machine, None), heap(0, 1, 2))
        machine = machine_at("p :- q(X), q(Y), r(X, Y). q(_). r(_, _).", "p", (("q", 1), 0), 2)
        self.assertEqual((machine.registers(), machine.frames()[0][1]), ({1: ("ref", ("s", 3))}, [("ref", ("s", 2)), ("ref", ("s", 3))]))
        self.assertEqual(reached(machine, None), stack(2, 3))

    def test_behind_choice_points(self):
        text = "p(X, Y) :- q(X), r(X, Y). q(f(1)). q(g(2)). r(f(A), A). r(_, 7)."
        machine = machine_at(text, "p(X, Y)", (("r", 2), 0))
        self.assertEqual(machine.heap(), [("str", ("h", 2)), ("ref", ("h", 1)), ("fun", "f", 1), ("int", 1)])
        self.assertEqual([row[0] for row in machine.choices()], [("q", 1), ("r", 2)])
        # Behind the first one the heap is shorter, X is unbound again, and the frame of p is there.
        self.assertEqual((reached(machine, 0), reached(machine, 1), reached(machine, None)), (heap(0, 1) + stack(2, 3), heap(0, 1, 2, 3), heap(0, 1, 2, 3)))

    def test_places_that_the_heap_does_not_have(self):
        # The slot of Y was filled behind the choice point of q; it refers to what was cut off.
        text = "p :- q(X), r(f(Y)), t(X, Y). q(1). q(2). r(f(7)). t(2, 7)."
        machine = machine_at(text, "p", (("q", 1), 0), 2)
        self.assertEqual((machine.frames(), machine.heap()), ([(0, [("ref", ("s", 2)), ("ref", ("h", 1))])], []))
        self.assertEqual(reached(machine, None), stack(2, 3))
        # In the state behind a choice point likewise.
        machine = machine_at(text, "p", (("r", 1), 0))
        self.assertEqual((machine.heap(), machine.frames()), ([("fun", "f", 1), ("ref", ("h", 1))], [(0, [("int", 1), ("ref", ("h", 1))])]))
        self.assertEqual((reached(machine, 0), reached(machine, None)), (stack(2, 3), heap(0, 1) + stack(2, 3)))

    def test_arguments_and_functor_cells_that_are_reached_by_a_reference_alone(self):
        # Behind failing, the slot of Y refers to a place where something else stands now: here an argument.
        machine = machine_at("p :- q(X), u(X), r(f(Y)), t(X, Y). q(1). q(2). u(1). u(2) :- v(3, h(4)), w. v(A, B) :- w, w. w. r(f(7)). t(2, 7).", "p", (("w", 0), 0))
        self.assertEqual((machine.heap(), machine.frames()[-1]), ([("fun", "h", 1), ("int", 4)], (0, [("int", 2), ("ref", ("h", 1))])))
        self.assertEqual(reached(machine, None), heap(1) + stack(2, 3))
        # Here the functor cell of h, whose argument is not reached.
        text = "p :- q(X), u(X), r(f(1, Y)), t(X, Y). q(1). q(2). u(1). u(2) :- v(k(5), h(4)), w. v(A, B) :- w, w. w. r(f(1, 7)). t(2, 7)."
        machine = machine_at(text, "p", (("w", 0), 0))
        self.assertEqual((machine.heap(), machine.frames()[-1]), ([("fun", "k", 1), ("int", 5), ("fun", "h", 1), ("int", 4)], (0, [("int", 2), ("ref", ("h", 2))])))
        self.assertEqual(reached(machine, None), heap(2) + stack(2, 3))
        # Here a str cell leads to it, too.
        machine = machine_at(text.replace("w, w. w.", "w, x(B). w. x(_)."), "p", (("w", 0), 0))
        self.assertEqual((machine.frames()[0], machine.frames()[-1]), ((6, [("str", ("h", 2))]), (0, [("int", 2), ("ref", ("h", 2))])))
        self.assertEqual(reached(machine, None), heap(2, 3) + stack(2, 3, 8))

    def test_structures_are_gone_through_once(self):
        text = "d(X, f(X, X)). e(_). p :- " + ", ".join(f"d(X{k}, X{k + 1})" for k in range(60)) + ", e(X60)."
        machine = machine_at(text, "p", (("e", 1), 0))
        self.assertGreater(len(reached(machine, None)), 180)

    def test_against_the_slow_way(self):
        text = ("p(1). p(2). q(f(X), X). q(g(Y), Z). r(L) :- p(A), q(B, A), s(B, C), ( p(C) ; true ), t([A, B, C|L]). s(f(X), Y) :- p(Y). s(g(X), h(Y, X)). t(_). t(_) :- p(_). "
                "u(X) :- catch(r(X), _, true), findall(Y - Z, q(Y, Z), L), t(L), X = [a|_].")
        many = 0
        for asked in ("r(X)", "u(X)", "(p(X), q(Y, X), r([Y]))", "findall(X, u(X), L)", "bagof(X - L, r([X|L]), M)"):
            machine = Machine(program(text), goal(asked), limit=400)
            for step in range(4000):
                if machine.step() == ("no",):
                    break
                if is_at_clause(machine) and step < 400:
                    self.assertEqual(reached(machine, None), slow_reached(machine))
                    for i in range(len(machine.choices())):
                        many += 1
                        other = restored(machine, i)
                        self.assertEqual((frames_behind(machine, i), reached(machine, i)), (other.frames(), slow_reached(other)))
        self.assertGreater(many, 500)


if __name__ == "__main__":
    unittest.main()
