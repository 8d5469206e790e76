"""The examples of DOC.md for the modules that are there, as its last section has them; those of README.md."""

import doctest
import pathlib
import unittest

from hornmill.builtins import builtin_row
from hornmill.collects import free_of, grouped
from hornmill.compiling import compiled
from hornmill.errors import NoText
from hornmill.flat import flattened
from hornmill.general import join_of, meet_of
from hornmill.heap import Store
from hornmill.index import Index, switches
from hornmill.judge import held, judge
from hornmill.machine import Machine
from hornmill.operators import standard, with_operator
from hornmill.reader import ending, read_term
from hornmill.signs import tokens
from hornmill.terms import depth_of, renumbered, size_of, variables_of
from hornmill.unify import is_most_general, unify
from hornmill.world import World
from hornmill.writer import brackets, written


class Examples(unittest.TestCase):
    def test_terms(self):
        t = ("f", (7,), ("g", (3,), (7,)), "a")
        self.assertEqual([size_of(t), depth_of(t), variables_of(t), renumbered(t)],
                         [6, 3, [7, 3], ("f", (0,), ("g", (1,), (0,)), "a")])

    def test_general(self):
        self.assertEqual(
            [join_of(("f", "a", "a", ("g", "a")), ("f", "b", "b", ("g", "c"))), meet_of(("f", (0,), "a"), ("f", "b", (0,)))],
            [("f", (0,), (0,), ("g", (1,))), ("f", "b", "a")])

    def test_unify(self):
        pairs = [(("f", (0,), (0,)), ("f", (1,), "a"))]
        self.assertEqual(
            [is_most_general(pairs, [(0, "a"), (1, "a")]), is_most_general(pairs, [(0, "a"), (1, "a"), (2, "b")]),
             unify([((0,), ("f", (0,)))])],
            [True, False, None])

    def test_the_forty_pairs(self):
        pairs = [((k + 1,), ("f", (k,), (k,))) for k in range(40)]
        self.assertIs(is_most_general(pairs, unify(pairs)), True)

    def test_tokens(self):
        self.assertEqual(tokens("f(- 1)"), [
            ("name", "f", 0, False), ("mark", "(", 1, False), ("name", "-", 2, False), ("integer", 1, 4, True),
            ("mark", ")", 5, False)])

    def test_reader(self):
        self.assertEqual(read_term("X = f(Y, [- 1, -1|X])", standard()),
                         (("=", (0,), ("f", (1,), (".", ("-", 1), (".", -1, (0,))))), ["X", "Y"]))
        with self.assertRaises(NoText) as caught:
            read_term("a = b = c", standard())
        self.assertEqual(caught.exception.why, 6)
        self.assertEqual([ending("f([a|", standard()), ending("- (1", standard())], [" a])", ")"])

    def test_writer(self):
        term = ("-", ("-", 1), ("-", 2, ("=", "+", (7,))))
        self.assertEqual([written(term, standard()), brackets(term, standard())], ["- 1 - (2 - ('+' = A))", 2])

    def test_operators(self):
        self.assertEqual(with_operator([(700, "xfx", "is")], 200, "xf", "is"), [(200, "xf", "is")])

    def test_builtins(self):
        self.assertEqual(
            [builtin_row(None, ("arg", 3), ((0,), ("f", "a", "b"), (1,)), 0), builtin_row(None, ("functor", 3), ((0,), "f", 2), 0)],
            [("row", [((0,), 1), ((1,), "a")], 1), ("row", [((0,), ("f", (1,), (2,)))], None)])

    def test_collects(self):
        self.assertEqual(free_of((0,), ("^", (1,), ("p", (2,), (0,), (1,), ("g", (3,))))), ([2, 3], ("p", (2,), (0,), (1,), ("g", (3,)))))
        pairs = [("b", 1), ("a", 2), ("b", 0), (("f", (3,)), (3,)), (("f", (5,)), ("g", (5,), (6,)))]
        self.assertEqual(grouped("bagof", pairs), [("a", [2]), ("b", [1, 0]), (("f", (3,)), [(3,), ("g", (3,), (6,))])])

    def test_flat(self):
        self.assertEqual(
            flattened((":-", ("p", (0,)), (";", ("->", ("q", (0,)), "!"), ("r", (0,), (1,)))), 0),
            [(("p", 1), ((0,),), (("entry", (1,)), ("call", (0, 2), ((0,), (1,))))),
             ((0, 2), ((0,), (1,)), (("entry", (2,)), ("call", ("q", 1), ((0,),)), ("cut", (2,)), ("cut", (1,)))),
             ((0, 2), ((0,), (1,)), (("call", ("r", 2), ((0,), (2,))),))])

    def test_worlds(self):
        world = World([("p", 1), ("p", 2), (":-", ("q", (0,)), (",", ("p", (0,)), "!"))])
        one = world.query(("q", (5,)))
        self.assertEqual([one.next(), one.next(), one.calls(), one.choices(), one.is_open()], [("yes", [1]), ("no",), 2, 1, False])
        goal = ("catch", (",", ("p", (0,)), ("throw", ("b", (0,)))), ("b", (1,)), "true")
        one = World([("p", 1), ("p", 2)]).query(goal)
        self.assertEqual([one.next(), one.next()], [("yes", [(0,), 1]), ("no",)])
        world = World([("p", 1)])
        error = ("error", ("existence_error", "procedure", ("/", "nobody", 0)), ("/", "nobody", 0))
        self.assertEqual(
            [world.query((",", ("p", (0,)), ("assertz", ("p", ("f", (0,)))))).next(), world.clauses(("p", 1)), world.query("nobody").next()],
            [("yes", [1]), [(":-", ("p", 1), "true"), (":-", ("p", ("f", 1)), "true")], ("thrown", error)])

    def test_store(self):
        store = Store()
        cell = store.build(("f", (0,), ("g", (0,))), {})
        self.assertEqual(
            [cell, store.heap(), store.read([cell])],
            [("str", ("h", 0)),
             [("fun", "f", 2), ("ref", ("h", 1)), ("str", ("h", 3)), ("fun", "g", 1), ("ref", ("h", 1))],
             ([("f", (0,), ("g", (0,)))], [("h", 1)])])

    def test_two_joins(self):
        store = Store()
        one = store.new()
        store.free(0)
        store.marks(1, 0)
        first = store.join(("ref", ("s", 0)), ("ref", one))
        second = store.join(("ref", ("s", 0)), ("con", "a"))
        self.assertEqual([first, second, store.at(("s", 0)), store.heap(), store.trail()],
                         [True, True, ("ref", ("h", 0)), [("con", "a")], [("h", 0)]])

    def test_compiling(self):
        self.assertEqual(
            compiled((("app", 3), ((".", (0,), (1,)), (2,), (".", (0,), (3,))), (("call", ("app", 3), ((1,), (2,), (3,))),))),
            [("take_new", ("x", 4), 2), ("take_struct", ".", 2, 1), ("arg_new", ("x", 5)), ("arg_new", ("x", 6)), ("take_struct", ".", 2, 3),
             ("arg_old", ("x", 5)), ("arg_new", ("x", 7)), ("give_old", ("x", 6), 1), ("give_old", ("x", 4), 2), ("give_old", ("x", 7), 3),
             ("jump", ("app", 3))])
        goals = (("call", ("rev", 2), ((1,), (3,))), ("call", ("app", 3), ((3,), (".", (0,), "[]"), (2,))))
        self.assertEqual(
            compiled((("rev", 2), ((".", (0,), (1,)), (2,)), goals)),
            [("frame", 3), ("take_new", ("y", 2), 2), ("take_struct", ".", 2, 1), ("arg_new", ("y", 1)), ("arg_new", ("x", 4)), ("give_old", ("x", 4), 1),
             ("give_new", ("y", 3), 2), ("call", ("rev", 2), 3), ("give_unsafe", ("y", 3), 1), ("give_struct", ".", 2, 2), ("arg_old", ("y", 1)),
             ("arg_const", "[]"), ("give_old", ("y", 2), 3), ("unframe",), ("jump", ("app", 3))])

    def test_index(self):
        clauses = [(("p", 1), ("a",), ()), (("p", 1), ((0,),), ()), (("p", 1), (("f", (0,)),), ())]
        self.assertEqual(
            [Index(clauses).row(("con", "a")), Index(clauses).row(("int", 3)), Index(clauses).known(), switches(clauses)],
            [[0, 1], [1], [("con", "a"), ("fun", "f", 1)],
             [("on_kind", 3, 1, 6, 2), ("on_con", (("a", 7),), 6), ("on_fun", ((("f", 1), 9),), 6), ("try", 0), ("retry", 1), ("trust", 2), ("only", 1), ("try", 0),
              ("trust", 1), ("try", 1), ("trust", 2)]])

    def test_machines(self):
        machine = Machine(World([("p", 1), ("p", 2)]), ("p", (0,)))
        self.assertEqual([machine.next(), machine.is_open(), machine.next(), machine.is_open(), machine.next(), machine.calls()],
                         [("yes", [1]), True, ("yes", [2]), False, ("no",), 1])
        machine = Machine(World(["a"]), "a")
        rows = [machine.place(), machine.step(), machine.place(), machine.step(), machine.place(), machine.step(), machine.place()]
        self.assertEqual([rows, machine.step()], [[None, None, ((-11, 0), 0), None, (("a", 0), 0), None, "END"], ("yes", [])])
        world = World([("p", (0,), ("f", (0,)))])
        self.assertEqual([Machine(world, ("p", (0,), (0,))).next(), Machine(world, ("p", (0,), (1,))).next()], [("no",), ("yes", [(0,), ("f", (0,))])])
        self.assertEqual(Machine(World([]), ("catch", ("is", (0,), "a"), (1,), "true")).next(),
                         ("yes", [(0,), ("error", ("type_error", "evaluable", ("/", "a", 0)), ("/", "is", 2))]))

    def test_judge(self):
        code = [("frame", 1), ("give_new", ("y", 1), 1), ("call", ("p", 1), 1), ("give_old", ("y", 1), 1), ("unframe",), ("jump", ("q", 1))]
        self.assertEqual([judge(0, code), held(0, code, 3), judge(0, code[:3] + [("give_unsafe", ("y", 1), 1)] + code[4:])],
                         [(5, "unsafe"), (1, {("y", 1): ("slot", 1)}), None])

    def test_readme(self):
        path = pathlib.Path(__file__).resolve().parent.parent / "README.md"
        failed, tried = doctest.testfile(str(path), module_relative=False)
        self.assertEqual(failed, 0)
        self.assertGreater(tried, 0)


if __name__ == "__main__":
    unittest.main()
