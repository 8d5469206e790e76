"""[1.5]: the promise of size."""

import time
import unittest

from hornmill.unify import is_most_general, is_unifier, resolved_term, unify
from tests.support import list_of, tower

SECONDS = 5


def doubling(first, many):
    """Pairs by which a variable becomes a term of 2 ** (many + 1) - 1 parts."""
    return [((first + k + 1,), ("f", (first + k,), (first + k,))) for k in range(many)]


def in_one_pair(first, many):
    """The same pairs, as the arguments of two lists."""
    pairs = doubling(first, many)
    return [(list_of([one for one, _ in pairs]), list_of([other for _, other in pairs]))]


class Size(unittest.TestCase):
    def timed(self, call, *args):
        begin = time.perf_counter()
        found = call(*args)
        self.assertLess(time.perf_counter() - begin, SECONDS)
        return found

    def judged(self, pairs):
        """Bindings of pairs, which must be most general, and not so if they are changed."""
        bindings = self.timed(unify, pairs)
        self.assertIs(self.timed(is_unifier, pairs, bindings), True)
        self.assertIs(self.timed(is_most_general, pairs, bindings), True)
        more = bindings + [(10 ** 9, "a")]
        self.assertIs(self.timed(is_unifier, pairs, more), True)
        self.assertIs(self.timed(is_most_general, pairs, more), False)
        for at in range(0, len(bindings), 7):
            less = bindings[:at] + bindings[at + 1:]
            self.assertIs(self.timed(is_unifier, pairs, less), False)
            self.assertIs(self.timed(is_most_general, pairs, less), False)
        return bindings

    def test_one_row(self):
        for many in (40, 50, 60):
            for pairs in (doubling(0, many), doubling(0, many)[::-1], in_one_pair(0, many)):
                self.judged(pairs)

    def test_two_rows_that_come_to_the_same(self):
        for many in (40, 60):
            for pairs in (doubling(0, many) + doubling(100, many), in_one_pair(0, many) + in_one_pair(100, many)):
                for last in (((many,), (100 + many,)), (("g", (100 + many,)), ("g", (many,)))):
                    self.judged(pairs + [last])
                    self.judged([last] + pairs)

    def test_two_rows_that_do_not_fit(self):
        for many in (40, 60):
            pairs = doubling(0, many) + doubling(100, many) + [((many,), (100 + many,))]
            for last in ([((0,), "a"), ((100,), "b")], [((0,), ("g", (100,)))], [((0,), ("f", (100,), "a"))],
                         [((1,), ("f", "a", "b"))], [((0,), (100 + many,))], [((5,), (107,))]):
                for other in (pairs + last, last + pairs):
                    self.assertIsNone(self.timed(unify, other))
                    bindings = [(k + 1, ("f", (k,), (k,))) for k in range(many)]
                    self.assertIs(self.timed(is_unifier, other, bindings), False)
                    self.assertIs(self.timed(is_most_general, other, bindings), False)

    def test_bindings_that_unify_and_are_not_most_general(self):
        many = 60
        pairs = doubling(0, many) + doubling(100, many)
        bindings = [(k + 1, ("f", (k,), (k,))) for k in range(many)]
        others = [(k + 101, ("f", (k + 100,), (k + 100,))) for k in range(many)]
        self.assertIs(self.timed(is_most_general, pairs, bindings + others), True)
        joined = bindings + [(100, (0,))] + others
        self.assertIs(self.timed(is_unifier, pairs, joined), True)
        self.assertIs(self.timed(is_most_general, pairs, joined), False)
        self.assertIs(self.timed(is_most_general, pairs + [((0,), (100,))], joined), True)

    def test_bindings_of_three_thousand_parts(self):
        many = 750
        bindings = [(k + 1, ("f", (k,), (k,), "a")) for k in range(many)]
        pairs = [((many,), ("f", (many - 1,), (many - 1,), "a")), ((many,), ("f", (many - 1,), (many - 1,), "b"))]
        self.assertIs(self.timed(is_unifier, pairs[:1], bindings), True)
        self.assertIs(self.timed(is_unifier, pairs, bindings), False)
        self.assertIs(self.timed(is_most_general, pairs[:1], bindings), False)

    def test_a_way_of_many_variables(self):
        many = 990
        pairs = [((k,), (k + 1,)) for k in range(many)]
        self.judged_at_ends(pairs, [((0,), "a"), ((many,), "b")])
        self.judged_at_ends(pairs[::-1], [((0,), ("f", (many,)))])

    def judged_at_ends(self, pairs, last):
        bindings = self.timed(unify, pairs)
        self.assertEqual(len(bindings), len(pairs))
        self.assertIs(self.timed(is_most_general, pairs, bindings), True)
        self.assertIsNone(self.timed(unify, pairs + last))

    def test_terms_that_stand_within_one_another(self):
        pairs = [((0,), tower(300))] + [((k,), ("f", (k + 1,))) for k in range(299)]
        bindings = self.timed(unify, pairs)
        self.assertIs(self.timed(is_most_general, pairs, bindings), True)
        self.assertEqual(resolved_term((0,), bindings), tower(300))
        self.assertEqual(resolved_term((298,), bindings), ("f", "a"))

    def test_variables_of_one_class_with_many_terms(self):
        many = 200
        pairs = [((0,), ("f", (k + 1,), (k + 2,))) for k in range(many)]
        self.assertIs(self.timed(is_most_general, pairs, self.timed(unify, pairs)), True)
        self.assertIsNone(self.timed(unify, pairs + [((many,), (0,))]))


if __name__ == "__main__":
    unittest.main()
