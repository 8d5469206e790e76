"""[3.4] to [3.7]: flat clauses."""

import unittest

from hornmill.errors import NoClause
from hornmill.flat import flat_goal, flattened
from tests.support import chance, odd_terms, slow_renumbered, slow_variables, some_term

A, B, C, D, E = [(k,) for k in range(5)]
P = ("p", 1)


def do_call(term):
    return ("do", ("call", 1), (term,))


def cut_in(goal):
    """Whether a cut is open in a goal [3.5]."""
    if goal == "!":
        return True
    if isinstance(goal, tuple) and len(goal) == 3 and goal[0] in (",", ";"):
        return cut_in(goal[1]) or cut_in(goal[2])
    return isinstance(goal, tuple) and len(goal) == 3 and goal[0] in ("->", "*->") and cut_in(goal[2])


CONTROL = "call/1 call/2 fail/0 throw/1 =/2 is/2 write/1 findall/3"


class SlowFlat:
    """Flattens by recursion. Places are ways from the root of ("", head args, body)."""

    def __init__(self, args, body, first, step):
        self.whole = (("",) + args, body)
        self.next, self.step, self.level = first, step, 10 ** 6
        self.flats = []

    def new(self):
        self.level += 1
        return (self.level,)

    def run(self, key):
        goals = []
        self.flats.append((key, self.whole[0][1:], goals))
        level = None
        if cut_in(self.whole[1]):
            level = self.new()
            goals.append(("entry", level))
        self.goals(self.whole[1], (), level, goals)
        return [self.numbered(*flat) for flat in self.flats]

    def goals(self, goal, place, level, out):
        name = goal[0] if isinstance(goal, tuple) and len(goal) > 1 else goal
        if isinstance(goal, tuple) and len(goal) == 1:
            out.append(do_call(goal))
        elif name == "," and len(goal) == 3:
            self.goals(goal[1], place + (1,), level, out)
            self.goals(goal[2], place + (2,), level, out)
        elif goal == "true":
            pass
        elif goal == "!":
            out.append(("cut", level))
        elif (name == "->" and len(goal) == 3) or (name == "once" and len(goal) == 2):
            v = self.new()
            out.append(("now", v))
            self.goals(goal[1], place + (1,), v, out)
            out.append(("cut", v))
            if name == "->":
                self.goals(goal[2], place + (2,), level, out)
        elif name == "*->" and len(goal) == 3:
            self.test(goal[1], place + (1,), out)
            self.goals(goal[2], place + (2,), level, out)
        elif isinstance(goal, tuple) and (name, len(goal)) in ((";", 3), ("\\+", 2), ("ignore", 2), ("forall", 3)):
            self.construct(name, goal, place, level, out)
        else:
            args = goal[1:] if isinstance(goal, tuple) else ()
            out.append(("do" if f"{name}/{len(args)}" in CONTROL.split() else "call", (name, len(args)), args))

    def test(self, goal, place, out):
        v = None
        if cut_in(goal):
            v = self.new()
            out.append(("now", v))
        self.goals(goal, place, v, out)

    def outside(self, place):
        """The variables of the clause without what stands at a place."""
        def without(term, way):
            if not way:
                return "gone"
            return term[:way[0]] + (without(term[way[0]], way[1:]),) + term[way[0] + 1:]
        return slow_variables(("", self.whole[0] + ("",), without(self.whole[1], place)))

    def construct(self, name, goal, place, level, out):
        inner = slow_variables(goal)
        outer = self.outside(place)
        order = slow_variables(("", self.whole[0] + ("",), self.whole[1]))
        args = [(k,) for k in order if k in inner and k in outer]
        level = level if cut_in(goal) else None
        if cut_in(goal):
            args.append(level)
        key = (self.next, len(args))
        self.next += self.step
        out.append(("call", key, tuple(args)))
        one, two = [], []
        self.flats += [(key, tuple(args), one), (key, tuple(args), two)]
        at = place
        if name in ("\\+", "forall"):
            self.entry(goal if name == "\\+" else ("\\+", (",", goal[1], ("\\+", goal[2]))), at, name, one)
            return
        if name == "ignore":
            w = self.new()
            one.append(("entry", w))
            self.test(goal[1], at + (1,), one)
            one.append(("cut", w))
            return
        first = goal[1]
        if isinstance(first, tuple) and len(first) == 3 and first[0] in ("->", "*->"):
            w = self.new()
            one.append(("entry", w))
            self.test(first[1], at + (1, 1), one)
            one.append(("cut" if first[0] == "->" else "soft", w))
            self.goals(first[2], at + (1, 2), level, one)
        else:
            self.goals(first, at + (1,), level, one)
        self.goals(goal[2], at + (2,), level, two)

    def entry(self, goal, place, name, out):
        w = self.new()
        out.append(("entry", w))
        if name == "\\+":
            self.test(goal[1], place + (1,), out)
        else:
            self.test_forall(goal[1], place, out)
        out.append(("cut", w))
        out.append(("do", ("fail", 0), ()))

    def test_forall(self, goal, place, out):
        """The goals of ",": the first side, then the negation of the second one."""
        v = None
        if cut_in(goal[1]):
            v = self.new()
            out.append(("now", v))
        self.goals(goal[1], place + (1,), v, out)
        self.negated(goal[2], place + (2,), out)

    def negated(self, goal, place, out):
        inner = slow_variables(goal)
        outer = self.outside(place)
        order = slow_variables(("", self.whole[0] + ("",), self.whole[1]))
        args = tuple((k,) for k in order if k in inner and k in outer)
        key = (self.next, len(args))
        self.next += self.step
        out.append(("call", key, args))
        one = []
        self.flats += [(key, args, one), (key, args, [])]
        w = self.new()
        one.append(("entry", w))
        self.test(goal[1], place, one)
        one += [("cut", w), ("do", ("fail", 0), ())]

    def numbered(self, key, args, goals):
        packed = tuple(("", "") + (goal[2] if goal[0] in ("call", "do") else goal[1:]) for goal in goals)
        whole = slow_renumbered(("", ("", "") + tuple(args), ("", "") + packed))
        made = []
        for goal, inner in zip(goals, whole[2][2:]):
            made.append((goal[0], goal[1], inner[2:]) if goal[0] in ("call", "do") else (goal[0], inner[2]))
        return (key, whole[1][2:], tuple(made))


class Flat(unittest.TestCase):
    def flat(self, body, *expected, head=("p", A)):
        """Check the flat clauses of a rule of p: what follows its own goals are those of new predicates."""
        self.assertEqual(flattened((":-", head, body), 0), [(P, (A,), expected[0])] + list(expected[1:]))

    def test_example(self):
        clause = (":-", ("p", A), (";", ("->", ("q", A), "!"), ("r", A, B)))
        self.assertEqual(flattened(clause, 0), [
            (P, (A,), (("entry", B), ("call", (0, 2), (A, B)))),
            ((0, 2), (A, B), (("entry", C), ("call", ("q", 1), (A,)), ("cut", C), ("cut", B))),
            ((0, 2), (A, B), (("call", ("r", 2), (A, C)),))])

    def test_facts_and_leaves(self):
        self.assertEqual(flattened("a", 0), [(("a", 0), (), ())])
        self.assertEqual(flattened(("p", (7,), ("f", (3,), (7,))), 5), [(("p", 2), (A, ("f", B, A)), ())])
        self.flat("true", ())
        self.flat("!", (("entry", B), ("cut", B)))
        self.flat(B, (do_call(B),))
        self.flat(A, (do_call(A),))
        self.flat(("q", A, B), (("call", ("q", 2), (A, B)),))
        self.flat(("is", B, A), (("do", ("is", 2), (B, A)),))
        self.flat("fail", (("do", ("fail", 0), ()),))
        self.flat("nobody", (("call", ("nobody", 0), ()),))
        for goal in (("call", A), ("call", A, 1, 2, 3, 4, 5, 6, 7), ("catch", A, 1, 2), ("throw", A), ("findall", A, 1, 2),
                     ("findall", A, 1, 2, 3), ("write", A), ("assertz", A)):
            self.flat(goal, (("do", (goal[0], len(goal) - 1), goal[1:]),))
        for goal in (("bagof", A, 1, 2), ("setof", A, 1, 2), ("aggregate_all", A, 1, 2), ("true", A), ("!", A), ("fail", A), (",", A),
                     ("\\+", A, 1), ("once", A, 1), (":-", A, 1), ("is", A), ("->", A, 1, 2), (";", A)):
            self.flat(goal, (("call", (goal[0], len(goal) - 1), goal[1:]),))

    def test_conjunctions(self):
        self.flat((",", (",", "a", "!"), (",", ("b", B), (",", "true", "c"))), (
            ("entry", B), ("call", ("a", 0), ()), ("cut", B), ("call", ("b", 1), (C,)), ("call", ("c", 0), ())))

    def test_conditions_without_else(self):
        self.flat(("->", ("q", B), ("r", B)), (
            ("now", B), ("call", ("q", 1), (C,)), ("cut", B), ("call", ("r", 1), (C,))))
        self.flat(("->", "a", "!"), (("entry", B), ("now", C), ("call", ("a", 0), ()), ("cut", C), ("cut", B)))
        self.flat(("->", "!", "a"), (("now", B), ("cut", B), ("cut", B), ("call", ("a", 0), ())))
        self.flat(("*->", "a", "b"), (("call", ("a", 0), ()), ("call", ("b", 0), ())))
        self.flat(("*->", "!", "b"), (("now", B), ("cut", B), ("call", ("b", 0), ())))
        self.flat(("*->", "a", "!"), (("entry", B), ("call", ("a", 0), ()), ("cut", B)))
        self.flat(("*->", (",", "a", "!"), "!"), (
            ("entry", B), ("now", C), ("call", ("a", 0), ()), ("cut", C), ("cut", B)))

    def test_once(self):
        self.flat(("once", "a"), (("now", B), ("call", ("a", 0), ()), ("cut", B)))
        self.flat(("once", "!"), (("now", B), ("cut", B), ("cut", B)))

    def test_disjunctions(self):
        self.flat((";", ("q", A), ("r", B)), (("call", (0, 1), (A,)),),
                  ((0, 1), (A,), (("call", ("q", 1), (A,)),)), ((0, 1), (A,), (("call", ("r", 1), (B,)),)))
        self.flat((";", "!", "true"), (("entry", B), ("call", (0, 1), (B,))),
                  ((0, 1), (A,), (("cut", A),)), ((0, 1), (A,), ()))
        self.flat((";", "true", "!"), (("entry", B), ("call", (0, 1), (B,))),
                  ((0, 1), (A,), ()), ((0, 1), (A,), (("cut", A),)))
        self.flat((";", B, A), (("call", (0, 1), (A,)),), ((0, 1), (A,), (do_call(B),)), ((0, 1), (A,), (do_call(A),)))

    def test_conditions_with_else(self):
        tail = (("call", ("b", 0), ()),)
        for name, word in (("->", "cut"), ("*->", "soft")):
            self.flat((";", (name, "a", "b"), "c"), (("call", (0, 0), ()),),
                      ((0, 0), (), (("entry", A), ("call", ("a", 0), ()), (word, A)) + tail), ((0, 0), (), (("call", ("c", 0), ()),)))
            self.flat((";", (name, "!", "b"), "c"), (("call", (0, 0), ()),),
                      ((0, 0), (), (("entry", A), ("now", B), ("cut", B), (word, A)) + tail), ((0, 0), (), (("call", ("c", 0), ()),)))
            self.flat((";", (name, "a", "b"), "!"), (("entry", B), ("call", (0, 1), (B,))),
                      ((0, 1), (A,), (("entry", B), ("call", ("a", 0), ()), (word, B)) + tail), ((0, 1), (A,), (("cut", A),)))
            self.flat((";", (name, "a", "!"), "c"), (("entry", B), ("call", (0, 1), (B,))),
                      ((0, 1), (A,), (("entry", B), ("call", ("a", 0), ()), (word, B), ("cut", A))),
                      ((0, 1), (A,), (("call", ("c", 0), ()),)))

    def test_once_is_no_condition_with_an_else(self):
        self.flat((";", ("once", "a"), "c"), (("call", (0, 0), ()),),
                  ((0, 0), (), (("now", A), ("call", ("a", 0), ()), ("cut", A))), ((0, 0), (), (("call", ("c", 0), ()),)))

    def test_negations(self):
        fail = ("do", ("fail", 0), ())
        self.flat(("\\+", ("q", A, B)), (("call", (0, 1), (A,)),),
                  ((0, 1), (A,), (("entry", B), ("call", ("q", 2), (A, C)), ("cut", B), fail)), ((0, 1), (A,), ()))
        self.flat(("\\+", "!"), (("call", (0, 0), ()),),
                  ((0, 0), (), (("entry", A), ("now", B), ("cut", B), ("cut", A), fail)), ((0, 0), (), ()))

    def test_ignore_and_forall(self):
        fail = ("do", ("fail", 0), ())
        self.flat(("ignore", ("q", A)), (("call", (0, 1), (A,)),),
                  ((0, 1), (A,), (("entry", B), ("call", ("q", 1), (A,)), ("cut", B))), ((0, 1), (A,), ()))
        self.flat(("ignore", "!"), (("call", (0, 0), ()),),
                  ((0, 0), (), (("entry", A), ("now", B), ("cut", B), ("cut", A))), ((0, 0), (), ()))
        self.flat(("forall", ("q", B), ("r", B)), (("call", (0, 0), ()),),
                  ((0, 0), (), (("entry", A), ("call", ("q", 1), (B,)), ("call", (1, 1), (B,)), ("cut", A), fail)), ((0, 0), (), ()),
                  ((1, 1), (A,), (("entry", B), ("call", ("r", 1), (A,)), ("cut", B), fail)), ((1, 1), (A,), ()))

    def test_arguments_by_their_first_occurrence_in_the_clause(self):
        clause = (":-", ("p", (5,), (3,)), (",", ("q", (9,), (3,)), (",", (";", ("a", (9,), (5,)), ("b", (7,), (3,))), ("c", (7,)))))
        self.assertEqual(flattened(clause, 4)[0][2][1], ("call", (4, 4), (A, B, C, D)))
        self.assertEqual(flattened(clause, 4)[1], ((4, 4), (A, B, C, D), (("call", ("a", 2), (C, A)),)))
        self.assertEqual(flattened(clause, 4)[2], ((4, 4), (A, B, C, D), (("call", ("b", 2), (D, B)),)))

    def test_variables_in_both_sides_alone_are_no_arguments(self):
        self.flat((";", ("q", B), ("r", B)), (("call", (0, 0), ()),),
                  ((0, 0), (), (("call", ("q", 1), (A,)),)), ((0, 0), (), (("call", ("r", 1), (A,)),)))

    def test_variables_in_the_other_side_are_outside_of_an_inner_construct(self):
        found = flattened((":-", "a", (";", ("\\+", ("q", B)), ("r", B))), 0)
        self.assertEqual(found[1], ((0, 0), (), (("call", (1, 1), (A,)),)))
        self.assertEqual([flat[0] for flat in found], [("a", 0), (0, 0), (0, 0), (1, 1), (1, 1)])

    def test_numbers_of_new_predicates(self):
        inner = (";", ("\\+", "a"), (";", "b", "c"))
        clause = (":-", "h", (",", inner, (";", ("->", ("\\+", "d"), ("\\+", "e")), ("\\+", "f"))))
        for first in (0, 7, -100):
            names = [flat[0][0] for flat in flattened(clause, first)]
            self.assertEqual(names, ["h"] + [first + k for k in (0, 0, 1, 1, 2, 2, 3, 3, 4, 4, 5, 5, 6, 6)])
        self.assertEqual(flattened(clause, 0)[0][2], (("call", (0, 0), ()), ("call", (3, 0), ())))
        self.assertEqual(flattened(clause, 0)[1][2], (("call", (1, 0), ()),))
        self.assertEqual(flattened(clause, 0)[2][2], (("call", (2, 0), ()),))

    def test_cuts_in_nested_constructs(self):
        clause = (":-", "h", (";", (";", "a", "!"), "b"))
        self.assertEqual(flattened(clause, 0), [
            (("h", 0), (), (("entry", A), ("call", (0, 1), (A,)))),
            ((0, 1), (A,), (("call", (1, 1), (A,)),)), ((0, 1), (A,), (("call", ("b", 0), ()),)),
            ((1, 1), (A,), (("call", ("a", 0), ()),)), ((1, 1), (A,), (("cut", A),))])
        # A cut in a disjunction in a condition cuts to the condition's own level.
        clause = (":-", "h", (";", ("->", (";", "a", "!"), "b"), "c"))
        self.assertEqual(flattened(clause, 0)[1], ((0, 0), (), (
            ("entry", A), ("now", B), ("call", (1, 1), (B,)), ("cut", A), ("call", ("b", 0), ()))))

    def test_deep_bodies(self):
        goal = "a"
        for _ in range(290):
            goal = ("\\+", goal)
        found = flattened((":-", "h", goal), 0)
        self.assertEqual(len(found), 581)
        self.assertEqual(found[-2], ((289, 0), (), (("entry", A), ("call", ("a", 0), ()), ("cut", A), ("do", ("fail", 0), ()))))

    def test_no_clause(self):
        table = [("head", (0,)), ("head", 5), ("head", (":-", 5, 6)), ("body", (":-", "a", 5)), ("body", (":-", "a", (",", "b", 1)))]
        table += [("head", wrong) for wrong in odd_terms()]
        for why, clause in table:
            with self.subTest(str(why)), self.assertRaises(NoClause) as caught:
                flattened(clause, 0)
            self.assertEqual(caught.exception.why, why)


class Goals(unittest.TestCase):
    def test_flat_goal(self):
        self.assertEqual(flat_goal("a", -11), [((-11, 0), (), (("call", ("a", 0), ()),))])
        self.assertEqual(flat_goal((5,), 3), [((3, 1), (A,), (do_call(A),))])
        self.assertEqual(flat_goal((",", ("q", (7,), (2,)), "!"), -11), [
            ((-11, 2), (A, B), (("entry", C), ("call", ("q", 2), (A, B)), ("cut", C)))])
        found = flat_goal((";", ("q", (7,)), ("\\+", (2,))), -20)
        self.assertEqual([flat[0] for flat in found], [(-20, 2), (-21, 2), (-21, 2), (-22, 1), (-22, 1)])
        self.assertEqual(found[0], ((-20, 2), (A, B), (("call", (-21, 2), (A, B)),)))

    def test_more_than_eight_variables(self):
        goal = (",", ("p",) + tuple((k,) for k in range(8)), ("q",) + tuple((k,) for k in range(8, 16)))
        found = flat_goal(goal, -11)
        self.assertEqual(found[0][0], (-11, 16))
        self.assertEqual(found[0][1], tuple((k,) for k in range(16)))

    def test_no_body(self):
        for wrong in odd_terms() + [5, (",", "a", 1), ("\\+", 0)]:
            with self.assertRaises(NoClause) as caught:
                flat_goal(wrong, -11)
            self.assertEqual(caught.exception.why, "body")


def some_goal(rng, depth):
    kind = rng.randrange(14) if depth else rng.randrange(5)
    inner = [some_goal(rng, depth - 1) for _ in range(2)] if depth else []
    if kind == 0:
        return rng.choice(["!", "!", "true", "fail", "a"])
    if kind == 1:
        return (rng.randrange(5),)
    if kind < 5:
        return (rng.choice(["q", "write", "r"]), some_term(rng, 2, range(5)))
    if kind < 8:
        return (rng.choice([",", ";", "->", "*->", "forall"]), *inner)
    if kind < 10:
        return (rng.choice(["\\+", "once", "ignore"]), inner[0])
    if kind < 12:
        return (";", (rng.choice(["->", "*->"]), *inner), some_goal(rng, depth - 1))
    return (",", *inner)


class ByChance(unittest.TestCase):
    def test_against_a_slow_way(self):
        rng = chance(77)
        for _ in range(3000):
            head = ("p", some_term(rng, 2, range(5)), (rng.randrange(5),))
            body = some_goal(rng, 4)
            first = rng.randrange(-5, 5)
            self.assertEqual(flattened((":-", head, body), first), SlowFlat(head[1:], body, first, 1).run(("p", 2)))
            args = tuple((k,) for k in slow_variables(body))
            self.assertEqual(flat_goal(body, first), SlowFlat(args, body, first - 1, -1).run((first, len(args))))


if __name__ == "__main__":
    unittest.main()
