"""[0.1], [12.12]: machines against queries by chance, and what is true of a machine at each step."""

import unittest

from hornmill.code import is_code
from hornmill.compiling import compiled
from hornmill.machine import Machine
from hornmill.meaning import Query
from hornmill.sorts import SORTS
from hornmill.world import World
from tests.running import counted
from tests.support import chance, list_of
from tests.test_flat_run import some_clause, some_goal
from tests.test_ways import LAYERS
from tests.test_ways import some_clause as some_plain_clause
from tests.test_ways import some_goal as some_plain_goal


def some_run(seed):
    """Clauses, a goal and a limit by chance."""
    rng = chance(seed)
    clauses = [some_clause(rng) for _ in range(rng.randint(1, 7))]
    return clauses, some_goal(rng, 3), rng.choice([0, 1, 5, 25, 25, 25])


def some_plain_run(seed):
    rng = chance(seed)
    clauses = [some_plain_clause(rng) for _ in range(8)] + [(name, 0, 1) for name in LAYERS]
    return clauses, some_plain_goal(rng, 3, 0), 2000


BUILTINS = [key for key, sort in SORTS.items() if isinstance(key[0], str) and sort != "control"]
BUILTINS += [("bagof", 3), ("setof", 3), ("aggregate_all", 3), ("call", 2), ("call", 3), ("findall", 3), ("findall", 4)]


def some_argument(rng, depth=2):
    """A term that many builtins do not refuse."""
    kind = rng.randrange(13 if depth else 8)
    if kind < 3:
        return (rng.randrange(5),)
    if kind < 8:
        return rng.choice(["a", "ab", "", "[]", "+", "p", "count", 0, 1, 2, -1, 97, 50])
    if kind < 10:
        return list_of([some_argument(rng, depth - 1) for _ in range(rng.randrange(4))], rng.choice(["[]", "[]", "[]", (rng.randrange(5),)]))
    if kind == 10:
        return (rng.choice(["-", "+", "*", "mod", "^"]), some_argument(rng, depth - 1), some_argument(rng, depth - 1))
    return (rng.choice(["p", "sum", "max", "bag", "f"]), some_argument(rng, depth - 1))


def some_builtin_goal(rng, depth):
    kind = rng.randrange(9 if depth else 3)
    if kind < 3:
        name, arity = rng.choice(BUILTINS)
        return (name, *[some_argument(rng) for _ in range(arity)]) if arity else name
    one, other = some_builtin_goal(rng, depth - 1), some_builtin_goal(rng, depth - 1)
    return [(",", one, other), (",", one, other), (";", one, other), ("catch", one, (rng.randrange(5),), other), ("\\+", one),
            ("findall", some_argument(rng), one, (rng.randrange(5),))][kind - 3]


class Agreement(unittest.TestCase):
    def compared(self, one, other, asked, limit, most):
        query, machine = one.query(asked, limit=limit), Machine(other, asked, limit=limit)
        words = []
        for _ in range(most):
            result = query.next()
            self.assertEqual((machine.next(), counted(machine)), (result, counted(query)))
            self.assertEqual((other.output(), other.known()), (one.output(), one.known()))
            self.assertEqual([other.clauses(key) for key in one.known()], [one.clauses(key) for key in one.known()])
            words.append(result[0])
            if result == ("no",):
                break
        return words

    def test_queries_and_machines(self):
        words = []
        for seed in range(3000, 5500):
            clauses, asked, limit = some_run(seed)
            with self.subTest(seed=seed):
                words += self.compared(World(clauses), World(clauses), asked, limit, 12)
        for word, least in (("yes", 600), ("no", 2000), ("thrown", 400), ("limit", 100)):
            self.assertGreater(words.count(word), least)

    def test_builtins(self):
        words = []
        for seed in range(2500):
            rng = chance(seed)
            clauses = [("p", some_argument(rng)) for _ in range(3)] + [(":-", ("p", some_argument(rng)), some_builtin_goal(rng, 1))]
            with self.subTest(seed=seed):
                words += self.compared(World(clauses), World(clauses), some_builtin_goal(rng, 3), 15, 8)
        for word, least in (("yes", 300), ("thrown", 800)):
            self.assertGreater(words.count(word), least)

    def test_plain_programs(self):
        many = 0
        for seed in range(900):
            clauses, asked, limit = some_plain_run(seed)
            with self.subTest(seed=seed):
                many += len(self.compared(World(clauses), World(clauses), asked, limit, 40))
        self.assertGreater(many, 3000)

    def test_by_turns(self):
        """Runs of one world, a step or an answer of each in turn, and the same with the two engines exchanged."""
        for seed in range(600):
            clauses, _, _ = some_run(seed)
            rng = chance(seed + 10 ** 6)
            goals = [some_goal(rng, 2) for _ in range(3)]
            order = [rng.randrange(3) for _ in range(12)]
            found = []
            for kinds in ((Machine, Query, Machine), (Query, Machine, Query)):
                world = World(clauses)
                runs = [Machine(world, one, limit=20) if kind == Machine else world.query(one, limit=20) for kind, one in zip(kinds, goals)]
                found.append(([runs[at].next() for at in order], world.output(), [(key, world.clauses(key)) for key in world.known()]))
            with self.subTest(seed=seed):
                self.assertEqual(found[0], found[1])


class Invariants(unittest.TestCase):
    def check(self, machine):
        cells, place = machine.heap(), machine.place()
        at_clause = isinstance(place, tuple) and place[1] == 0
        size = len(cells)
        for cell in cells:
            # The heap never refers to the stack.
            self.assertTrue(cell[0] != "ref" or (cell[1][0] == "h" and cell[1][1] < size))
            self.assertTrue(cell[0] != "str" or cells[cell[1][1]][0] == "fun")
        frames = machine.frames()
        slots = [("s", base + 2 + at) for base, row in frames for at in range(len(row))]
        for base, row in frames:
            for at, cell in enumerate(row):
                # Frames refer to older places alone.
                self.assertTrue(cell[0] != "ref" or cell[1][0] == "h" or cell[1][1] <= base + 2 + at)
        for (base, _), (before, row) in zip(frames, frames[1:]):
            self.assertLessEqual(before + 2 + len(row), base)
        if frames:
            self.assertGreaterEqual(machine.top(), frames[0][0] + 2 + len(frames[0][1]))
        for cell in machine.registers().values():
            self.assertTrue(place is None or cell[0] != "ref" or cell[1] in slots or (cell[1][0] == "h" and cell[1][1] < size))
        if at_clause:
            self.assertEqual(sorted(machine.registers()), list(range(1, place[0][1] + 1)))

    def check_failing(self, machine, before):
        """Behind a failing that went on with a clause, the machine has what the choice point told."""
        choices, heap_before, trail_before = before
        place = machine.place()
        if not isinstance(place, tuple) or place[1] != 0:
            return False
        what, _, registers, base, entry, trail, heap, _ = choices[len(machine.choices()) - (1 if machine.choices() and machine.choices()[-1][1] < choices[len(machine.choices()) - 1][1] else 0)]
        self.assertEqual((what, registers, entry, trail, heap), (place[0], machine.registers(), machine.entry(), len(machine.trail()), len(machine.heap())))
        self.assertEqual(base, machine.frames()[0][0] if machine.frames() else None)
        noted = trail_before[trail:]
        self.assertEqual(machine.heap(), [("ref", ("h", k)) if ("h", k) in noted else cell for k, cell in enumerate(heap_before[:heap])])
        self.assertEqual(machine.trail(), trail_before[:trail])
        return True

    def test_at_each_step(self):
        failings = 0
        for seed in range(700):
            clauses, asked, limit = some_run(seed) if seed < 500 else some_plain_run(seed)
            machine = Machine(World(clauses), asked, limit=limit)
            with self.subTest(seed=seed):
                for step in range(400):
                    fails = step > 0 and machine.place() is None and machine.is_open()
                    before = (machine.choices(), machine.heap(), machine.trail())
                    result = machine.step()
                    self.check(machine)
                    failings += fails and self.check_failing(machine, before)
                    if result is not None and result[0] != "yes":
                        break
        self.assertGreater(failings, 500)

    def test_clauses_of_worlds_compile(self):
        for seed in range(300):
            clauses, _, _ = some_run(seed)
            world = World(clauses)
            for key in world.known() + [(name, arity) for name in range(12) for arity in range(9)]:
                for flat in world.flat(key):
                    self.assertIs(is_code(compiled(flat)), True)


if __name__ == "__main__":
    unittest.main()
