"""Queries against a slow machine for flat clauses, by chance: answers, counts, output and worlds [3.4] to [3.7], [4.1] to [4.6]."""

import unittest

from hornmill.world import World
from tests.flat_run import FlatRun
from tests.support import chance


def some_term(rng, depth=2):
    kind = rng.randrange(7 if depth else 4)
    if kind < 2:
        return (rng.randrange(4),)
    if kind == 2:
        return rng.choice("ab")
    if kind == 3:
        return rng.randrange(2)
    return (rng.choice("fg"),) + tuple(some_term(rng, depth - 1) for _ in range(rng.randint(1, 2)))


def some_builtin(rng):
    def some():
        return some_term(rng)

    variable, other = (rng.randrange(4),), (rng.randrange(4),)
    return rng.choice([
        ("between", 0, 2, variable), ("arg", variable, some(), some()), ("throw", some()), ("call", some()),
        ("is", variable, ("+", 1, some_term(rng, 0))), ("atom_concat", variable, other, "ab"), ("\\==", some(), some()),
        ("compare", variable, some(), some()), ("write", some()), "nl"])


def some_change(rng):
    return rng.choice([
        ("assertz", ("q", some_term(rng))), ("assertz", (":-", ("q", some_term(rng)), some_goal(rng, 0))), ("retract", ("q", some_term(rng))),
        ("asserta", ("p", some_term(rng))), ("clause", ("q", some_term(rng)), (rng.randrange(4),)), ("abolish", ("/", "s", 0)),
        ("retractall", (rng.choice("pq"), some_term(rng))), ("clause", ("p", some_term(rng)), (rng.randrange(4),))])


def some_collect(rng, inner):
    variable, template = (rng.randrange(4),), some_term(rng, 1)
    return rng.choice([
        ("findall", template, inner, variable), ("findall", template, inner, some_term(rng, 1), variable), ("setof", template, inner, variable),
        ("bagof", template, ("^", (rng.randrange(4),), inner), variable),
        ("aggregate_all", rng.choice(["count", ("bag", template), ("max", template), ("sum", template)]), inner, variable)])


def some_goal(rng, depth):
    kind = rng.randrange(16 if depth > 0 else 8)
    if kind == 0:
        return "!"
    if kind == 1:
        return rng.choice(["true", "fail", "true", "t"])
    if kind == 2:
        return ("=", some_term(rng), some_term(rng))
    if kind in (3, 4):
        return (rng.choice("pqr"), some_term(rng)) if rng.random() < .8 else rng.choice("st")
    if kind == 5:
        return some_builtin(rng)
    if kind == 6:
        return (rng.randrange(4),) if rng.random() < .3 else (rng.choice("pq"), some_term(rng))
    if kind == 7:
        return some_change(rng)
    one, other, third = [some_goal(rng, depth - 1) for _ in range(3)]
    if kind in (8, 9, 10):
        return (",", one, other)
    if kind == 11:
        return (";", one, other)
    if kind == 12:
        return rng.choice([(";", ("->", one, other), third), (";", ("*->", one, other), third), ("->", one, other), ("*->", one, other)])
    if kind == 13:
        return rng.choice([("\\+", one), ("once", one), ("ignore", one), ("forall", one, other), (";", ("once", one), other),
                           (";", ("\\+", one), other)])
    if kind == 14:
        return rng.choice([("catch", one, some_term(rng, 1), other), ("catch", one, (rng.randrange(4),), other), ("call", one),
                           ("call", "p", some_term(rng)), ("call", (",", one), other)])
    return some_collect(rng, one)


def some_clause(rng):
    head = rng.choice([("p", some_term(rng)), ("q", some_term(rng)), ("r", some_term(rng)), "s"])
    return head if rng.random() < .4 else (":-", head, some_goal(rng, 3))


class ByChance(unittest.TestCase):
    def test_queries_and_flat_runs(self):
        seen = set()
        for seed in range(2500):
            rng = chance(seed)
            clauses = [some_clause(rng) for _ in range(rng.randint(1, 7))]
            asked = some_goal(rng, 3)
            limit = rng.choice([0, 1, 5, 25, 25, 25])
            with self.subTest(seed=seed):
                seen |= self.compared(clauses, asked, limit)
        self.assertEqual(seen, {"yes", "no", "thrown", "limit"})

    def compared(self, clauses, asked, limit):
        one, other = World(clauses), World(clauses)
        query, flat = one.query(asked, limit=limit), FlatRun(other, asked, limit)
        words = set()
        for _ in range(12):
            result = query.next()
            self.assertEqual(result, flat.next())
            self.assertEqual((query.calls(), query.choices(), query.standing()), (flat.called, flat.made, flat.most))
            self.assertEqual(query.is_open(), bool(flat.choices))
            self.assertEqual((one.output(), one.known()), (other.output(), other.known()))
            for key in one.known():
                self.assertEqual(one.clauses(key), other.clauses(key))
            words.add(result[0])
            if result == ("no",):
                break
        return words


if __name__ == "__main__":
    unittest.main()
