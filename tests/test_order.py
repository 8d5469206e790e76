"""[1.3]: the order of terms."""

import functools
import unittest

from hornmill.order import compare_terms, sort_terms
from tests.support import chance, list_of, some_term, tower

ASCENDING = [
    (0,), (1,), (2,), (10,), (10 ** 30,),
    -10 ** 300 + 1, -10, -2, -1, 0, 1, 2, 10, 10 ** 300 - 1,
    "", " ", "!", "0", "A", "Z", "[]", "_", "a", "aa", "ab", "b", "~",
    ("", "z"), ("a", (0,)), ("a", (1,)), ("a", -1), ("a", 0), ("a", ""), ("a", "a"), ("a", ("a", (0,))), ("aa", (0,)),
    ("b", (0,)), ("~", (0,)),
    (".", "a", "[]"), ("a", (0,), (0,)), ("a", (0,), (1,)), ("a", (0,), "a"), ("a", (1,), (0,)), ("a", "a", "b"),
    ("a", "b", "a"), ("a", ("z", "z"), (0,)), ("a", ("a", "a", "a"), (0,)), ("b", (0,), (0,)),
    ("a", (0,), (0,), (0,)), ("a", 1, 2, 3), ("a", 1, 2, 4),
    ("",) + ((0,),) * 8,
]


class Compare(unittest.TestCase):
    def test_all_against_all(self):
        for at, one in enumerate(ASCENDING):
            for place, other in enumerate(ASCENDING):
                with self.subTest(f"{str(one)[:30]} {str(other)[:30]}"):
                    self.assertEqual(compare_terms(one, other), (at > place) - (at < place))

    def test_the_answer_is_a_plain_integer(self):
        for one, other in (("a", "b"), ("b", "a"), ("a", "a"), ((0,), 3)):
            self.assertIs(type(compare_terms(one, other)), int)

    def test_the_number_of_arguments_counts_ahead_of_the_name(self):
        self.assertEqual(compare_terms(("z", "z"), ("a", "a", "a")), -1)
        self.assertEqual(compare_terms(("z", "z", "z"), ("a", "a")), 1)

    def test_the_name_counts_ahead_of_the_arguments(self):
        self.assertEqual(compare_terms(("a", ("z", "z")), ("b", (0,))), -1)

    def test_the_first_argument_that_differs_counts(self):
        self.assertEqual(compare_terms(("f", "a", "z"), ("f", "b", "a")), -1)
        self.assertEqual(compare_terms(("f", "a", "z", (0,)), ("f", "a", "b", 5)), 1)
        self.assertEqual(compare_terms(("f", ("g", "a", (1,)), "a"), ("f", ("g", "a", (0,)), "b")), 1)

    def test_an_inner_compound_counts_whole_ahead_of_what_follows(self):
        self.assertEqual(compare_terms(("f", ("g", "a"), "z"), ("f", ("g", "a", "a"), "a")), -1)
        self.assertEqual(compare_terms(("f", ("g", 9), 0), ("f", ("h", 0), 9)), -1)

    def test_atoms_are_compared_sign_by_sign(self):
        self.assertEqual(compare_terms("B", "a"), -1)
        self.assertEqual(compare_terms("a", "a "), -1)
        self.assertEqual(compare_terms("10", "9"), -1)
        self.assertEqual(compare_terms(("10", "a"), ("9", "a")), -1)

    def test_integers_are_compared_by_size(self):
        self.assertEqual(compare_terms(10, 9), 1)
        self.assertEqual(compare_terms(-10, -9), -1)

    def test_long_and_deep_terms(self):
        self.assertEqual(compare_terms(list_of(range(290)), list_of(range(290))), 0)
        self.assertEqual(compare_terms(list_of([1] * 289 + [2]), list_of([1] * 289 + [3])), -1)
        self.assertEqual(compare_terms(list_of([1] * 10, (5,)), list_of([1] * 10)), -1)
        self.assertEqual(compare_terms(tower(300, "b"), tower(300, "a")), 1)
        self.assertEqual(compare_terms(tower(300), tower(299)), 1)
        self.assertEqual(compare_terms(tower(3000), tower(3000)), 0)

    def test_terms_by_chance(self):
        rng = chance(31)
        for _ in range(500):
            one, other = some_term(rng, 3, [0, 1, 12]), some_term(rng, 3, [0, 1, 12])
            self.assertEqual(compare_terms(one, other), slow_compare(one, other))
            self.assertEqual(compare_terms(one, one), 0)


class Sort(unittest.TestCase):
    def test_of_none(self):
        self.assertEqual(sort_terms([]), [])
        self.assertEqual(sort_terms(()), [])

    def test_of_all_kinds(self):
        rng = chance(32)
        for _ in range(20):
            terms = list(ASCENDING)
            rng.shuffle(terms)
            self.assertEqual(sort_terms(terms), ASCENDING)
            self.assertEqual(sort_terms(tuple(terms)), ASCENDING)

    def test_equal_ones_all_stay(self):
        terms = ["b", "a", ("f", (0,)), "b", "a", 3, ("f", (0,)), 3, (1,)]
        self.assertEqual(sort_terms(terms), [(1,), 3, 3, "a", "a", "b", "b", ("f", (0,)), ("f", (0,))])

    def test_the_list_is_new(self):
        terms = ["b", "a"]
        found = sort_terms(terms)
        found.append("c")
        self.assertEqual(terms, ["b", "a"])
        self.assertEqual(sort_terms(terms), ["a", "b"])
        done = ["a", "b"]
        self.assertIsNot(sort_terms(done), done)

    def test_a_tuple_is_a_row_of_terms_even_if_it_is_a_term(self):
        self.assertEqual(sort_terms(("f", "b", "a")), ["a", "b", "f"])

    def test_terms_by_chance(self):
        rng = chance(33)
        for _ in range(50):
            terms = [some_term(rng, 3, [0, 1, 12]) for _ in range(rng.randint(0, 20))]
            self.assertEqual(sort_terms(terms), sorted(terms, key=functools.cmp_to_key(slow_compare)))


def slow_compare(one, other):
    """THE ORDER, rule by rule."""
    if one == other:
        return 0
    if slow_kind(one) != slow_kind(other):
        return -1 if slow_kind(one) < slow_kind(other) else 1
    if slow_kind(one) != 3:
        return -1 if one < other else 1
    if len(one) != len(other):
        return -1 if len(one) < len(other) else 1
    if one[0] != other[0]:
        return -1 if one[0] < other[0] else 1
    return next(slow_compare(a, b) for a, b in zip(one[1:], other[1:]) if a != b)


def slow_kind(term):
    if isinstance(term, tuple):
        return 0 if len(term) == 1 else 3
    return 1 if isinstance(term, int) else 2


if __name__ == "__main__":
    unittest.main()
