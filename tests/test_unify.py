"""[1.4], [1.6]: unification, and how bindings are judged."""

import unittest

from hornmill.terms import size_of, variables_of
from hornmill.unify import is_most_general, is_unifier, resolved_term, unify
from tests.support import (
    chance, list_of, slow_renumbered, slow_resolved, slow_unify, slow_variables, some_term, tower,
)


class Resolved(unittest.TestCase):
    def test_what_is_not_bound_stays(self):
        for term in ((3,), 5, "a", ("f", (3,), "a"), list_of(range(290))):
            self.assertEqual(resolved_term(term, []), term)
            self.assertEqual(resolved_term(term, [(1, "b"), (7, (3,))]), term)

    def test_bound_variables_are_replaced_and_so_on(self):
        bindings = [(0, ("f", (1,), (2,))), (1, "a"), (2, ("g", (3,), (1,))), (5, (0,))]
        self.assertEqual(resolved_term((0,), bindings), ("f", "a", ("g", (3,), "a")))
        self.assertEqual(resolved_term((5,), bindings), ("f", "a", ("g", (3,), "a")))
        self.assertEqual(resolved_term(("h", (5,), (3,), (2,)), bindings),
                         ("h", ("f", "a", ("g", (3,), "a")), (3,), ("g", (3,), "a")))

    def test_a_way_down_and_a_way_up(self):
        self.assertEqual(resolved_term((0,), [(0, (1,)), (1, (2,)), (2, (3,))]), (3,))
        self.assertEqual(resolved_term((3,), [(1, (0,)), (2, (1,)), (3, (2,))]), (0,))

    def test_a_bound_variable_of_a_great_number(self):
        self.assertEqual(resolved_term(("f", (10 ** 50,)), [(10 ** 50, "a")]), ("f", "a"))

    def test_long_ways(self):
        bindings = [(k, ("f", (k + 1,))) for k in range(290)]
        self.assertEqual(resolved_term((0,), bindings), tower(291, (290,)))

    def test_by_chance(self):
        rng = chance(41)
        for _ in range(300):
            bindings = some_bindings(rng)
            term = some_term(rng, 4, list(range(8)))
            self.assertEqual(resolved_term(term, bindings), slow_resolved(term, dict(bindings)))


UNIFIED = [
    [],
    [("a", "a")], [(3, 3)], [((0,), (0,))], [((0,), (1,))], [((1,), (0,))], [((0,), "a")], [("a", (0,))], [((0,), -7)],
    [((0,), ("f", (1,)))], [(("f", (1,)), (0,))], [(("f", (0,)), ("f", "a"))], [(("f", "a"), ("f", "a"))],
    [(("f", (0,), (0,)), ("f", (1,), "a"))], [(("f", (0,), "b"), ("f", "a", (1,)))],
    [((0,), "a"), ((0,), "a")], [((0,), (1,)), ((1,), (2,)), ((2,), (0,))], [((0,), (1,)), ((1,), "a")],
    [((0,), ("f", (1,))), ((0,), ("f", "a"))], [((0,), ("f", (1,))), ((2,), ("f", "a")), ((0,), (2,))],
    [((0,), ("g", (1,), (2,))), ((1,), ("h", (2,))), ((2,), "a")],
    [(("f", (0,), ("g", (0,))), ("f", ("h", (1,)), (2,)))],
    [(("f",) + tuple((k,) for k in range(8)), ("f",) + tuple((k + 1,) for k in range(8)))],
    [((10 ** 40,), (10 ** 41,))], [(list_of(range(290)), list_of([(k,) for k in range(290)]))],
    [(tower(300, (0,)), tower(300, "a"))], [(tower(300), (0,))], [(("f", (0,), (1,)), ("f", (1,), (0,)))],
]

NOT_UNIFIED = [
    [("a", "b")], [(1, 2)], [(1, "1")], [("a", 1)], [("a", ("a", "a"))], [(3, ("f", 3))],
    [(("f", "a"), ("g", "a"))], [(("f", "a"), ("f", "a", "a"))], [(("f", "a"), ("f", "b"))],
    [((0,), "a"), ((0,), "b")], [((0,), (1,)), ((0,), "a"), ((1,), "b")],
    [(("f", (0,), (0,)), ("f", "a", "b"))], [(("f", (0,), (1,)), ("f", (1,), "a")), ((0,), "b")],
    [((0,), ("f", (0,)))], [(("f", (0,)), (0,))], [((0,), ("f", "a", ("g", (0,))))],
    [((0,), ("f", (1,))), ((1,), ("g", (0,)))], [((0,), ("f", (1,))), ((1,), ("g", (2,))), ((2,), ("h", (0,)))],
    [((0,), (1,)), ((0,), ("f", (1,)))], [((0,), ("f", (1,))), ((0,), (1,))],
    [(("f", (0,), (1,)), ("f", ("g", (1,)), ("g", (0,))))], [((0,), ("f", (1,))), ((0,), ("f", (2,))), ((1,), ("g", (0,)))],
    [((0,), ("f", (1,))), ((2,), ("f", (3,))), ((0,), (2,)), ((3,), ("f", (0,)))],
    [(list_of(range(290)), list_of(list(range(289)) + [0]))], [(tower(300), tower(299))], [(tower(300, (0,)), (0,))],
    [("a", "a"), ((0,), (1,)), ("a", "b")], [("", "[]")],
]


class Unify(unittest.TestCase):
    def test_bindings_unify_and_are_most_general(self):
        for pairs in UNIFIED:
            with self.subTest(str(pairs)[:60]):
                bindings = unify(pairs)
                self.assertIs(type(bindings), list)
                self.assertIs(is_unifier(pairs, bindings), True)
                self.assertIs(is_most_general(pairs, bindings), True)
                check_bindings(self, pairs, bindings)

    def test_sides_and_order_exchanged(self):
        for pairs in UNIFIED:
            for other in (turned(pairs), pairs[::-1], pairs + pairs, tuple(pairs)):
                with self.subTest(str(other)[:60]):
                    check_bindings(self, other, unify(other))
                    self.assertIs(is_most_general(other, unify(pairs)), True)
                    self.assertIs(is_most_general(pairs, unify(other)), True)

    def test_none(self):
        for pairs in NOT_UNIFIED:
            for other in (pairs, turned(pairs), pairs[::-1], [("a", "a")] + pairs + [((90,), (91,))]):
                with self.subTest(str(other)[:60]):
                    self.assertIsNone(unify(other))

    def test_what_cannot_be_unified_has_no_unifier(self):
        for pairs in NOT_UNIFIED:
            for bindings in ([], [(0, "a")], [(0, (1,))], [(0, "a"), (1, "a")], [(0, ("f", (9,)))], [(9, (0,))]):
                with self.subTest(str(pairs)[:60]):
                    self.assertIs(is_unifier(pairs, bindings), False)
                    self.assertIs(is_most_general(pairs, bindings), False)

    def test_the_example(self):
        found = unify([(("f", (0,), (0,)), ("f", (1,), "a"))])
        self.assertIn(found, ([(0, (1,)), (1, "a")], [(0, "a"), (1, "a")]))
        self.assertIsNone(unify([((0,), ("f", (0,)))]))

    def test_no_pairs(self):
        self.assertEqual(unify([]), [])
        self.assertEqual(unify([("a", "a"), ((3,), (3,)), (("f", (1,)), ("f", (1,)))]), [])

    def test_a_repeated_call_returns_an_equal_new_list(self):
        pairs = [(("f", (0,), (1,)), ("f", (1,), ("g", (2,))))]
        first = unify(pairs)
        first.append("x")
        self.assertEqual(unify(pairs), first[:-1])

    def test_by_chance(self):
        rng = chance(42)
        seen = [0, 0]
        for _ in range(1500):
            pairs = some_pairs(rng)
            slow, found = slow_unify(pairs), unify(pairs)
            seen[slow is None] += 1
            self.assertEqual(slow is None, found is None, pairs)
            if slow is not None:
                check_bindings(self, pairs, found)
                for bindings in (found, sorted(slow.items())):
                    self.assertIs(is_most_general(pairs, bindings), True)
        self.assertGreater(min(seen), 300)


class Judged(unittest.TestCase):
    def judge(self, pairs, bindings, unifies, most_general):
        with self.subTest(f"{pairs} {bindings}"):
            self.assertIs(is_unifier(pairs, bindings), unifies)
            self.assertIs(is_most_general(pairs, bindings), most_general)

    def test_the_example(self):
        pairs = [(("f", (0,), (0,)), ("f", (1,), "a"))]
        self.judge(pairs, [(0, "a"), (1, "a")], True, True)
        self.judge(pairs, [(0, (1,)), (1, "a")], True, True)
        self.judge(pairs, [(0, "a"), (1, (0,))], True, True)
        self.judge(pairs, [(0, "a"), (1, "a"), (2, "b")], True, False)

    def test_one_less(self):
        pairs = [(("f", (0,), (0,)), ("f", (1,), "a"))]
        self.judge(pairs, [(0, "a")], False, False)
        self.judge(pairs, [(1, "a")], False, False)
        self.judge(pairs, [(0, (1,))], False, False)
        self.judge(pairs, [], False, False)

    def test_one_more(self):
        self.judge([((0,), (1,))], [(0, (1,))], True, True)
        self.judge([((0,), (1,))], [(1, (0,))], True, True)
        self.judge([((0,), (1,))], [(0, "a"), (1, "a")], True, False)
        self.judge([((0,), (1,))], [(0, (1,)), (1, "a")], True, False)
        self.judge([((0,), (1,))], [(0, ("f", (2,))), (1, ("f", (2,)))], True, False)

    def test_a_variable_that_does_not_stand_in_the_pairs(self):
        self.judge([((0,), (1,))], [(0, (2,)), (1, (2,))], True, False)
        self.judge([((0,), (1,))], [(0, (1,)), (2, (3,))], True, False)
        self.judge([((0,), (1,))], [(0, (1,)), (2, (0,))], True, False)
        self.judge([((0,), (1,))], [(0, (1,)), (2, "a")], True, False)
        self.judge([((0,), "a")], [(0, "a"), (5, (6,))], True, False)
        self.judge([((0,), ("f", (1,)))], [(0, ("f", (2,))), (1, (2,))], True, False)

    def test_no_pairs(self):
        self.judge([], [], True, True)
        self.judge([], [(0, (1,))], True, False)
        self.judge([], [(0, "a")], True, False)
        self.judge([("a", "a")], [], True, True)
        self.judge([((0,), (0,))], [], True, True)
        self.judge([((0,), (0,))], [(0, "a")], True, False)
        self.judge([((0,), (0,))], [(0, (1,))], True, False)

    def test_two_variables_that_must_stay_apart(self):
        pairs = [((0,), ("f", (1,), (2,)))]
        self.judge(pairs, [(0, ("f", (1,), (2,)))], True, True)
        self.judge(pairs, [(0, ("f", (1,), (1,))), (2, (1,))], True, False)
        self.judge(pairs, [(0, ("f", (2,), (2,))), (1, (2,))], True, False)
        self.judge(pairs, [(0, ("f", (2,), (1,)))], False, False)

    def test_bound_by_way_of_others(self):
        pairs = [((0,), ("f", (1,))), ((1,), "a")]
        self.judge(pairs, [(0, ("f", (1,))), (1, "a")], True, True)
        self.judge(pairs, [(0, ("f", "a")), (1, "a")], True, True)
        self.judge(pairs, [(0, ("f", "a"))], False, False)
        self.judge(pairs, [(0, ("f", "b")), (1, "b")], False, False)

    def test_turned_names(self):
        pairs = [((0,), (1,)), ((2,), (3,)), ((1,), (4,))]
        self.judge(pairs, [(0, (4,)), (1, (0,)), (3, (2,))], True, True)
        self.judge(pairs, [(0, (1,)), (1, (4,)), (2, (3,))], True, True)
        self.judge(pairs, [(0, (1,)), (1, (4,)), (2, (3,)), (3, (4,))], True, False)

    def test_by_chance(self):
        rng = chance(43)
        seen = [0, 0, 0]
        for _ in range(3000):
            pairs = some_pairs(rng)
            slow = slow_unify(pairs)
            bindings = some_bindings(rng) if slow is None or rng.randrange(3) == 0 else changed(rng, slow)
            table = dict(bindings)
            unifies = all(slow_resolved(one, table) == slow_resolved(other, table) for one, other in pairs)
            best = unifies and is_slow_variant(pairs, table, slow)
            seen[unifies + best] += 1
            self.assertIs(is_unifier(pairs, bindings), unifies, (pairs, bindings))
            self.assertIs(is_most_general(pairs, bindings), best, (pairs, bindings))
        self.assertGreater(min(seen), 100)


def check_bindings(test, pairs, bindings):
    """Bindings of the variables of pairs alone, k rising, that unify, and are no greater than the pairs."""
    numbers = [k for one, other in pairs for k in variables_of(one) + variables_of(other)]
    test.assertEqual([k for k, _ in bindings], sorted({k for k, _ in bindings}))
    for k, term in bindings:
        test.assertIn(k, numbers)
        test.assertLessEqual(set(variables_of(term)), set(numbers))
    table = dict(bindings)
    for one, other in pairs:
        test.assertEqual(slow_resolved(one, table), slow_resolved(other, table))
    test.assertLessEqual(sum(size_of(term) for _, term in bindings),
                         sum(size_of(one) + size_of(other) for one, other in pairs))


def turned(pairs):
    return [(other, one) for one, other in pairs]


def some_pairs(rng):
    numbers = list(range(rng.randint(1, 5)))
    return [(some_term(rng, rng.randint(1, 4), numbers), some_term(rng, rng.randint(1, 3), numbers))
            for _ in range(rng.randint(0, 3))]


def has_round(table):
    """Whether some way from a bound variable comes back to it."""
    for k in table:
        reached, waiting = set(), [k]
        while waiting:
            for inner in slow_variables(table.get(waiting.pop(), "a")):
                if inner not in reached:
                    reached.add(inner)
                    waiting.append(inner)
        if k in reached:
            return True
    return False


def some_bindings(rng):
    while True:
        table = {k: some_term(rng, 2, list(range(7))) for k in range(6) if rng.randrange(2)}
        if not has_round(table):
            return sorted(table.items())


def changed(rng, slow):
    """Bindings near to those that unify."""
    while True:
        table = dict(slow)
        step = rng.randrange(4)
        if step == 0 and table:
            del table[rng.choice(list(table))]
        elif step == 1:
            table[rng.randrange(7)] = some_term(rng, 2, list(range(7)))
        elif step == 2:
            turned_ones = [k for k, term in table.items() if isinstance(term, tuple) and len(term) == 1]
            if turned_ones:
                k = rng.choice(turned_ones)
                other = table.pop(k)[0]
                table[other] = (k,)
        if not has_round(table):
            return sorted(table.items())


def is_slow_variant(pairs, table, slow):
    """The fact of [1.6], word by word."""
    row = [inner for pair in pairs for inner in pair] + [inner for k, term in table.items() for inner in ((k,), term)]
    numbers = []
    for term in row:
        numbers += [k for k in slow_variables(term) if k not in numbers]
    ones = ("v", *[slow_resolved((k,), table) for k in numbers])
    others = ("v", *[slow_resolved((k,), slow) for k in numbers])
    return slow_renumbered(ones) == slow_renumbered(others)


if __name__ == "__main__":
    unittest.main()
