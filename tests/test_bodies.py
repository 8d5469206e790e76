"""[3.1] to [3.3]: goals, bodies, clauses, and how they are stored."""

import unittest

from hornmill.bodies import is_body, is_clause, stored
from hornmill.errors import NoClause
from tests.support import chance, odd_terms, slow_renumbered, some_term, tower

OF_TWO = (",", ";", "->", "*->", "forall")
OF_ONE = ("\\+", "once", "ignore")


def slow_goals(goal):
    """The leaves of a goal, in the words of [3.1]."""
    if isinstance(goal, tuple) and ((len(goal) == 3 and goal[0] in OF_TWO) or (len(goal) == 2 and goal[0] in OF_ONE)):
        return [leaf for side in goal[1:] for leaf in slow_goals(side)]
    return [goal]


def slow_stored(goal):
    if slow_goals(goal) == [goal]:
        return ("call", goal) if isinstance(goal, tuple) and len(goal) == 1 else goal
    return (goal[0],) + tuple(slow_stored(side) for side in goal[1:])


def some_goal(rng, depth):
    """A goal by chance, perhaps with integers as leaves, and with names near those of constructs."""
    kind = rng.randrange(8) if depth else rng.randrange(3)
    if kind < 3:
        return some_term(rng, 2, (0, 4, 9), names=("f", ",", "\\+")) if rng.randrange(4) else rng.choice(["!", "true", (3,)])
    if kind < 6:
        return (rng.choice(OF_TWO), some_goal(rng, depth - 1), some_goal(rng, depth - 1))
    return (rng.choice(OF_ONE), some_goal(rng, depth - 1))


class Bodies(unittest.TestCase):
    def test_leaves(self):
        for term in ("a", "!", "true", "", ",", "\\+", (0,), (7,), ("p", 1), ("p", (0,)), ("call", 1), ("call", 1, 2), ("is", 1, 2)):
            with self.subTest(str(term)):
                self.assertIs(is_body(term), True)
        for term in (0, 1, -1, 10 ** 299):
            with self.subTest(str(term)):
                self.assertIs(is_body(term), False)

    def test_each_construct(self):
        for name in OF_TWO:
            with self.subTest(name):
                for good in ("a", (0,), ("p", 1)):
                    self.assertIs(is_body((name, "b", good)), True)
                    self.assertIs(is_body((name, good, "b")), True)
                self.assertIs(is_body((name, "b", 1)), False)
                self.assertIs(is_body((name, 1, "b")), False)
                self.assertIs(is_body((name, 1)), True)
                self.assertIs(is_body((name, 1, 2, 3)), True)
        for name in OF_ONE:
            with self.subTest(name):
                self.assertIs(is_body((name, "a")), True)
                self.assertIs(is_body((name, (2,))), True)
                self.assertIs(is_body((name, 0)), False)
                self.assertIs(is_body((name, 1, 2)), True)

    def test_integers_below_leaves_and_within_constructs(self):
        self.assertIs(is_body(("p", (",", 1, 2))), True)
        self.assertIs(is_body(("call", (",", 1, 2))), True)
        self.assertIs(is_body(("findall", 1, 2, 3)), True)
        self.assertIs(is_body((",", "a", ("\\+", (";", "b", ("->", ("once", 1), "c"))))), False)
        self.assertIs(is_body((",", "a", ("\\+", (";", "b", ("->", ("once", ("q", 1)), "c"))))), True)

    def test_what_is_no_term(self):
        for wrong in odd_terms():
            self.assertIs(is_body(wrong), False)
            self.assertIs(is_clause(wrong), False)
        self.assertIs(is_body((",", "a", True)), False)
        self.assertIs(is_body(("p", ["a"])), False)

    def test_deep_bodies(self):
        goal = "a"
        for _ in range(299):
            goal = ("\\+", goal)
        self.assertIs(is_body(goal), True)
        goal = 1
        for _ in range(299):
            goal = (",", "a", goal)
        self.assertIs(is_body(goal), False)
        self.assertIs(is_body(tower(300)), True)


class Clauses(unittest.TestCase):
    def test_heads(self):
        for head in ("a", "", ("p", 1), ("p",) + (1,) * 8, ("call", 1), ",", (":-", 1), (":-", 1, 2, 3), ("is", 1, 2)):
            with self.subTest(str(head)):
                self.assertIs(is_clause(head), True)
                self.assertIs(is_clause((":-", head, "b")), True)
                self.assertEqual(stored(head), (":-", head, "true"))
                self.assertEqual(stored((":-", head, "b")), (":-", head, "b"))
        for head in ((0,), 5, -1):
            with self.subTest(str(head)):
                self.assertIs(is_clause(head), False)
                self.assertIs(is_clause((":-", head, "b")), False)
                self.wrong("head", head)
                self.wrong("head", (":-", head, "b"))

    def wrong(self, why, clause):
        with self.assertRaises(NoClause) as caught:
            stored(clause)
        self.assertIs(type(caught.exception), NoClause)
        self.assertEqual(caught.exception.why, why)

    def test_bodies(self):
        self.wrong("body", (":-", "a", 1))
        self.wrong("body", (":-", "a", (",", "b", ("\\+", 1))))
        self.assertIs(is_clause((":-", "a", 1)), False)
        self.assertIs(is_clause((":-", "a", (0,))), True)

    def test_head_is_told_ahead_of_body(self):
        self.wrong("head", (":-", 1, 2))
        self.wrong("head", (":-", (0,), (",", 1, 2)))

    def test_what_is_no_term(self):
        for wrong in odd_terms():
            self.wrong("head", wrong)
        self.wrong("head", (":-", "a", True))
        self.wrong("head", (":-", "a", ["b"]))
        self.wrong("head", (":-", 1, None))

    def test_a_rule_as_a_head_or_a_leaf(self):
        inner = (":-", "b", "c")
        self.assertEqual(stored((":-", inner, "d")), (":-", inner, "d"))
        self.assertEqual(stored((":-", "a", inner)), (":-", "a", inner))
        self.assertEqual(stored((":-", "a", (":-", "b", (0,)))), (":-", "a", (":-", "b", (0,))))
        self.assertEqual(stored((":-", "a", (":-", "b", 1))), (":-", "a", (":-", "b", 1)))

    def test_variables_as_leaves(self):
        self.assertEqual(stored((":-", ("p", (7,)), (4,))), (":-", ("p", (0,)), ("call", (1,))))
        self.assertEqual(
            stored((":-", "a", (";", ("->", (5,), ("\\+", (3,))), ("forall", (5,), ("p", (3,)))))),
            (":-", "a", (";", ("->", ("call", (0,)), ("\\+", ("call", (1,)))), ("forall", ("call", (0,)), ("p", (1,))))))
        for name in OF_ONE:
            self.assertEqual(stored((":-", "a", (name, (1,)))), (":-", "a", (name, ("call", (0,)))))
        for name in OF_TWO:
            self.assertEqual(stored((":-", "a", (name, (1,), (2,)))), (":-", "a", (name, ("call", (0,)), ("call", (1,)))))

    def test_all_else_stays(self):
        body = (",", ("once", "a"), (",", ("ignore", "!"), ("forall", "true", ("call", (0,)))))
        self.assertEqual(stored((":-", ("p", (0,)), body)), (":-", ("p", (0,)), body))
        self.assertEqual(stored((":-", "a", ("p", (",", (9,), 1)))), (":-", "a", ("p", (",", (0,), 1))))

    def test_by_chance(self):
        rng = chance(3)
        for _ in range(3000):
            body = some_goal(rng, 4)
            good = not any(isinstance(leaf, int) for leaf in slow_goals(body))
            self.assertIs(is_body(body), good)
            clause = (":-", ("p", (9,), (4,)), body)
            self.assertIs(is_clause(clause), good)
            if good:
                self.assertEqual(stored(clause), slow_renumbered((":-", ("p", (9,), (4,)), slow_stored(body))))
            else:
                self.wrong("body", clause)


if __name__ == "__main__":
    unittest.main()
