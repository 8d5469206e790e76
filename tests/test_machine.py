"""[12.1] to [12.11]: machines, step by step."""

import unittest

from hornmill.errors import BadGoal, BadValue
from hornmill.machine import Machine
from hornmill.world import World
from tests.machine_traces import TRACES
from tests.running import goal, program
from tests.support import odd_terms, odd_values

BEGINNING = {"place": None, "registers": {}, "frames": [], "choices": [], "heap": [], "trail": [], "top": 0, "entry": 0, "most_heap": 0, "most_stack": 0, "most_trail": 0,
             "n_calls": 0, "n_choices": 0, "most_standing": 0}


def told(machine):
    """All that a machine tells."""
    found = {name: getattr(machine, name)() for name in ("place", "registers", "frames", "choices", "heap", "trail", "top", "entry")}
    counts = machine.counts()
    found.update({f"most_{name}": counts.pop(name) for name in ("heap", "stack", "trail", "standing")})
    found.update({f"n_{name}": many for name, many in counts.items()})
    return found


def run_to(machine, place):
    while machine.place() != place:
        assert machine.step() is None


def error(formal, name, arity):
    return ("error", formal, ("/", name, arity))


class Steps(unittest.TestCase):
    maxDiff = None

    def test_traces(self):
        for name, text, asked, rows in TRACES:
            machine = Machine(program(text), goal(asked))
            expected = dict(BEGINNING)
            self.assertEqual(told(machine), expected)
            for at, (result, changes) in enumerate(rows):
                with self.subTest(name, step=at):
                    expected.update(changes)
                    self.assertEqual((machine.step(), told(machine)), (result, expected))
                    self.assertEqual((machine.is_open(), machine.calls()), (machine.choices() != [], machine.counts()["calls"]))
            for _ in range(2):
                self.assertEqual((machine.step(), told(machine)), (("no",), expected))

    def test_what_is_told_is_new(self):
        machine = Machine(program("q(1). q(2). p :- q(X), q(Y), r(X, Y)."), "p")
        run_to(machine, (("q", 1), 0))
        machine.step()
        machine.step()
        run_to(machine, (("q", 1), 0))
        before = told(machine)
        for row in (machine.heap(), machine.trail(), machine.frames(), machine.frames()[0][1], machine.choices()):
            row.clear()
        for table in (machine.registers(), machine.counts(), machine.choices()[0][2]):
            table.clear()
        self.assertEqual(told(machine), before)

    def test_example(self):
        machine = Machine(World(["a"]), "a")
        rows = [machine.place(), machine.step(), machine.place(), machine.step(), machine.place(), machine.step(), machine.place()]
        self.assertEqual([rows, machine.step()], [[None, None, ((-11, 0), 0), None, (("a", 0), 0), None, "END"], ("yes", [])])


class Beginnings(unittest.TestCase):
    def test_the_first_step(self):
        machine = Machine(World(), ("p", (7,), (3,), (7,), "a"))
        self.assertIsNone(machine.step())
        self.assertEqual((machine.place(), machine.registers(), machine.heap()), (((-11, 2), 0), {1: ("ref", ("h", 0)), 2: ("ref", ("h", 1))}, [("ref", ("h", 0)), ("ref", ("h", 1))]))

    def test_names_of_new_predicates(self):
        machine = Machine(program("q. p :- ( q ; q )."), goal("((q ; q), call((q ; \\+ q ; q)), p, call(q), call(q))"))
        places = []
        while machine.step() is None:
            if isinstance(machine.place(), tuple) and machine.place()[1] == 0 and isinstance(machine.place()[0][0], int):
                places.append(machine.place()[0])
        # The goal has -11 and -12, the first call/1 -13, -14, -15 and -16, those behind it -17 and -18; the clause of p has 0.
        self.assertEqual(places, [(-11, 0), (-12, 0), (-13, 0), (-14, 0), (0, 0), (-17, 0), (-18, 0)])

    def test_goals_that_are_no_bodies(self):
        for text, ball in (("X", error("instantiation_error", "call", 1)), ("1", error(("type_error", "callable", 1), "call", 1)),
                           ("(a, 1)", error(("type_error", "callable", (",", "a", 1)), "call", 1)), ("(X ; f(Y) -> 2)", None)):
            machine = Machine(World(), goal(text))
            result = machine.step()
            self.assertEqual((result, World().query(goal(text)).next()), (result, result))
            if ball is not None:
                self.assertEqual(result, ("thrown", ball))
            self.assertEqual((machine.next(), machine.step(), machine.place(), machine.heap(), machine.calls()), (("no",), ("no",), None, [], 0))

    def test_errors(self):
        world = World()
        for wrong in odd_terms():
            for limit in (2000, -1, None):
                with self.assertRaises(BadGoal) as caught:
                    Machine(world, wrong, limit=limit)
                self.assertIs(caught.exception.goal, wrong)
        for wrong in odd_values() + [-1, "1", (1,), [1]]:
            with self.assertRaises(BadValue) as caught:
                Machine(world, "a", limit=wrong)
            self.assertEqual(caught.exception.why, "limit")
        self.assertRaises(TypeError, Machine, world, "a", 5)
        self.assertRaises(TypeError, Machine, world)


class Turns(unittest.TestCase):
    def test_next_and_step_in_turns(self):
        world = program("p(1). p(2). p(3).")
        machine = Machine(world, goal("p(X)"))
        self.assertIsNone(machine.step())
        self.assertEqual(machine.next(), ("yes", [1]))
        self.assertIsNone(machine.place())
        # Behind an answer the machine first fails.
        self.assertIsNone(machine.step())
        self.assertEqual(machine.place(), (("p", 1), 0))
        self.assertEqual(machine.next(), ("yes", [2]))
        while machine.place() != "END":
            self.assertIsNone(machine.step())
        self.assertEqual((machine.step(), machine.is_open()), (("yes", [3]), False))
        self.assertEqual((machine.step(), machine.next(), machine.step()), (("no",), ("no",), ("no",)))

    def test_ends(self):
        for text, asked, limit, result in (("p :- p.", "p", 7, ("limit",)), ("p.", "p", 0, ("limit",)), ("p.", "q", 5, ("thrown", error(("existence_error", "procedure", ("/", "q", 0)), "q", 0))),
                                           ("p(1).", "(p(X), throw(f(Y, X, Y)))", 5, ("thrown", ("f", (0,), 1, (0,)))), ("p.", "fail", 5, ("no",))):
            with self.subTest(asked):
                machine = Machine(program(text), goal(asked), limit=limit)
                query = program(text).query(goal(asked), limit=limit)
                self.assertEqual((machine.next(), query.next()), (result, result))
                for _ in range(3):
                    self.assertEqual((machine.next(), machine.step(), machine.is_open(), machine.place(), machine.calls()), (("no",), ("no",), False, None, query.calls()))

    def test_choices_go_at_the_end(self):
        machine = Machine(program("p(1). p(2)."), goal("(p(X), throw(a))"))
        self.assertEqual((machine.next(), machine.is_open(), machine.choices(), machine.top()), (("thrown", "a"), False, [], 0))
        machine = Machine(program("p(1). p(2)."), goal("(p(X), p(Y))"), limit=1)
        self.assertEqual((machine.next(), machine.is_open(), machine.choices()), (("limit",), False, []))

    def test_the_limit(self):
        text, asked = "p(0). p(N) :- N > 0, M is N - 1, q, p(M). q.", goal("(p(5), !)")
        self.assertEqual(Machine(program(text), asked).next(), ("yes", []))
        for limit in range(13):
            machine = Machine(program(text), asked, limit=limit)
            self.assertEqual(machine.next(), ("yes", []) if limit >= 11 else ("limit",))
            self.assertEqual(machine.calls(), min(limit, 11))
        machine = Machine(program(text), asked, limit=10 ** 30)
        self.assertEqual(machine.next(), ("yes", []))

    def test_calls_of_the_library_and_of_new_predicates_are_not_counted(self):
        machine = Machine(program("p(1). p(2)."), goal("(findall(X, p(X), L), bagof(Y, p(Y), M), setof(Z, p(Z), N), aggregate_all(count, p(_), K), (true ; p(3)), call(true), between(1, 2, B))"), limit=4)
        self.assertEqual(machine.next()[0], "yes")
        self.assertEqual(machine.calls(), 4)


class Levels(unittest.TestCase):
    def test_a_level_as_the_first_argument(self):
        # The new predicate gets nothing but the level of the clause; it is tried as if it were a variable.
        machine = Machine(program("p :- ( !, fail ; true ). p. q :- p. q."), "q")
        run_to(machine, ((0, 1), 0))
        self.assertEqual(machine.registers(), {1: ("level", 1)})
        self.assertEqual([row[:3] for row in machine.choices()], [(("q", 0), 1, {}), (("p", 0), 1, {}), ((0, 1), 1, {1: ("level", 1)})])
        self.assertEqual((machine.next(), machine.calls()), (("yes", []), 2))

    def test_entry(self):
        machine = Machine(program("p(1). p(2). q :- p(X), r. r. r."), "q")
        for place, entry in (((("q", 0), 0), 0), ((("p", 1), 0), 0), ((("r", 0), 0), 1)):
            run_to(machine, place)
            self.assertEqual(machine.entry(), entry)


class Frames(unittest.TestCase):
    def test_slots_that_count(self):
        world = program("p(A, B, C) :- q(A), r(A, B), r(B, C), r(C, C). q(_). r(_, _).")
        machine = Machine(world, ("p", "a", "b", "c"))
        found = []
        while machine.place() != "END":
            machine.step()
            if machine.frames() and (found == [] or found[-1] != len(machine.frames()[0][1])):
                found.append(len(machine.frames()[0][1]))
        self.assertEqual(found, [3, 2, 1])
        self.assertEqual((machine.frames(), machine.top(), machine.counts()["stack"]), ([], 0, 5))

    def test_bases(self):
        world = program("a :- b, t. b :- c(X), c(X). c(X) :- d, t(X). d :- e, t. e. t. t(_).")
        machine = Machine(world, "a")
        run_to(machine, (("e", 0), 0))
        self.assertEqual([(base, len(slots)) for base, slots in machine.frames()], [(8, 0), (5, 1), (2, 1), (0, 0)])
        self.assertEqual(machine.top(), 10)

    def test_choice_points_keep_the_stack(self):
        world = program("a :- b(X), c(X). b(X) :- d(X), e. d(1). d(2). e :- t, t. t. c(X) :- t, X = 2.")
        machine = Machine(world, "a")
        run_to(machine, (("c", 1), 0))
        # The frame of b is left, but a choice point stands that holds it.
        self.assertEqual((machine.frames(), [row[3:] for row in machine.choices()], machine.top()), ([], [(3, 0, 0, 0, 5)], 5))
        machine.step()
        self.assertEqual(machine.frames(), [(5, [("none",)])])
        self.assertEqual(machine.next(), ("yes", []))

    def test_last_calls_run_in_a_bounded_stack(self):
        world = program("p(0) :- !. p(N) :- M is N - 1, q(M). q(N) :- p(N). r([]). r([_|T]) :- s(X, X), r(T). s(_, _).")
        for asked in ("p(500)", "p(1500)", "(length(L, 300), r(L))", "(length(L, 900), r(L))"):
            machine = Machine(world, goal(asked), limit=10 ** 6)
            self.assertEqual(machine.next()[0], "yes")
            self.assertLess(machine.counts()["stack"], 12)

    def test_a_slot_that_was_filled_keeps_its_cell(self):
        # Behind failing the slot of Y, filled behind the choice point, has what it had until it is filled anew.
        world = program("p :- q(X), r(f(Y)), t(X, Y). q(1). q(2). r(f(7)). t(2, 7).")
        machine = Machine(world, "p")
        while machine.place() is not None or machine.calls() < 4:
            machine.step()
        self.assertEqual(machine.step(), None)
        self.assertEqual(machine.place(), (("q", 1), 0))
        # The place to which the slot refers is gone.
        self.assertEqual((machine.frames(), machine.heap()), ([(0, [("ref", ("s", 2)), ("ref", ("h", 1))])], []))
        self.assertEqual(machine.next(), ("yes", []))


if __name__ == "__main__":
    unittest.main()
