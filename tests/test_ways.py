"""[4.7]: without cuts, conditions, negations and effects the answers are those of the ways through the clauses, in their order."""

import unittest

from hornmill.world import World
from tests.support import chance, slow_renumbered, slow_replaced, slow_unify, slow_variables

LAYERS = ("p", "q", "r")


def ways(goals, pairs, program, fresh):
    """The pairs that are to be unified on each way through the clauses, one way after the other."""
    if slow_unify(pairs) is None:
        return
    if not goals:
        yield pairs
        return
    first, rest = goals[0], goals[1:]
    if first == "true":
        yield from ways(rest, pairs, program, fresh)
    elif first[0] == ",":
        yield from ways([first[1], first[2]] + rest, pairs, program, fresh)
    elif first[0] == ";":
        for side in first[1:]:
            yield from ways([side] + rest, pairs, program, fresh)
    elif first[0] == "=":
        yield from ways(rest, pairs + [first[1:]], program, fresh)
    else:
        for clause in program:
            head, body = clause[1:] if clause[0] == ":-" else (clause, "true")
            if (head[0], len(head)) == (first[0], len(first)):
                table = {k: (fresh + at,) for at, k in enumerate(slow_variables(clause))}
                inner = list(zip(first[1:], slow_replaced(head, table)[1:]))
                yield from ways([slow_replaced(body, table)] + rest, pairs + inner, program, fresh + 10)


def slow_answers(goal, program):
    numbers = slow_variables(goal)
    for pairs in ways([goal], [], program, 100):
        bindings = slow_unify(pairs)
        row = ("", "", *[slow_replaced((k,), bindings) for k in numbers])
        while any(k in bindings for k in slow_variables(row)):
            row = slow_replaced(row, bindings)
        yield list(slow_renumbered(row)[2:])


def some_term(rng, depth):
    kind = rng.randrange(10)
    if kind < 6:
        return (rng.randrange(4),)
    if kind < 8 or depth == 0:
        return rng.choice(["a", "b", 0])
    return (rng.choice("fg"),) + tuple(some_term(rng, depth - 1) for _ in range(rng.randint(1, 2)))


def some_goal(rng, depth, layer):
    kind = rng.randrange(7) if depth else rng.randrange(3)
    if kind < 2 and layer < len(LAYERS):
        return (rng.choice(LAYERS[layer:]), some_term(rng, 2), some_term(rng, 1))
    if kind < 3:
        return rng.choice([("=", some_term(rng, 3), some_term(rng, 2)), "true"])
    return (rng.choice([",", ",", ";"]), some_goal(rng, depth - 1, layer), some_goal(rng, depth - 1, layer))


def some_clause(rng):
    layer = rng.randrange(len(LAYERS))
    head = (LAYERS[layer], some_term(rng, 2), some_term(rng, 2))
    return head if rng.randrange(3) else (":-", head, some_goal(rng, 2, layer + 1))


class Ways(unittest.TestCase):
    def test_by_chance(self):
        rng = chance(47)
        many = 0
        for _ in range(400):
            clauses = [some_clause(rng) for _ in range(8)]
            program = clauses + [(name, 0, 1) for name in LAYERS]
            goal = some_goal(rng, 3, 0)
            query = World(program).query(goal)
            for at, row in enumerate(slow_answers(goal, program)):
                if at == 40:
                    break
                self.assertEqual(query.next(), ("yes", row))
                many += 1
            else:
                self.assertEqual(query.next(), ("no",))
        self.assertGreater(many, 1000)


if __name__ == "__main__":
    unittest.main()
