"""[8.1] to [8.6]: the library, groups of solutions, and the builtins of the library."""

import unittest

from hornmill.collects import free_of, grouped, library
from hornmill.errors import BadPairs, BadTerm
from hornmill.general import is_variant
from hornmill.terms import is_term
from tests.asking import INST, Asking, domain_error, resource_error, type_error
from tests.support import chance, list_of, odd_pairs, odd_terms, slow_renumbered, slow_replaced, slow_variables, some_term
from tests.test_texts import slow_key

A, B, C, D, E, F, G = [(k,) for k in range(7)]
GREAT = 10 ** 300 - 1


class Library(unittest.TestCase):
    def test_flat_clauses(self):
        def solutions(word):
            return ((word, 3), (A, B, C), (
                ("do", (-1, 6), (word, A, B, C, D, E)), ("do", ("findall", 3), (("-", D, A), E, F)),
                ("do", (-2, 4), (word, D, F, C))))

        aggregate = (("aggregate_all", 3), (A, B, C), (
            ("do", (-3, 4), (A, B, C, D)), ("do", ("findall", 3), (D, B, E)), ("do", (-4, 3), (A, E, C))))
        self.assertEqual(library(), [solutions("bagof"), solutions("setof"), aggregate])

    def test_the_list_is_new(self):
        one = library()
        one.clear()
        self.assertEqual(len(library()), 3)


class Free(unittest.TestCase):
    def test_example(self):
        self.assertEqual(free_of(A, ("^", B, ("p", C, A, B, ("g", D)))), ([2, 3], ("p", C, A, B, ("g", D))))

    def test_templates(self):
        self.assertEqual(free_of("a", ("p", B, A)), ([1, 0], ("p", B, A)))
        self.assertEqual(free_of(("f", A, 1, ("g", B)), ("p", B, C, A)), ([2], ("p", B, C, A)))
        self.assertEqual(free_of(A, A), ([], A))
        self.assertEqual(free_of(A, B), ([1], B))
        self.assertEqual(free_of(A, 5), ([], 5))

    def test_several_bounds(self):
        goal = ("p", A, B, C, D, E)
        self.assertEqual(free_of("a", ("^", A, ("^", ("f", C, E), goal))), ([1, 3], goal))
        self.assertEqual(free_of(B, ("^", "x", ("^", 5, goal))), ([0, 2, 3, 4], goal))
        self.assertEqual(free_of("a", ("^", A, ("^", B, C))), ([2], C))
        self.assertEqual(free_of("a", ("^", ("^", A, B), goal)), ([2, 3, 4], goal))

    def test_other_compounds_of_that_name(self):
        for goal in (("^", A), ("^", A, B, C), ("p", ("^", A, B)), (",", ("^", A, "b"), "c")):
            self.assertEqual(free_of("a", goal), (slow_variables(goal), goal))

    def test_deep_goals(self):
        goal = ("p", (500,))
        for k in range(290):
            goal = ("^", (k,), goal)
        self.assertEqual(free_of("a", goal), ([500], ("p", (500,))))

    def test_what_is_no_term(self):
        for wrong in odd_terms():
            for args in ((wrong, "a"), (wrong, ["other"]), ("a", wrong), (A, wrong)):
                with self.assertRaises(BadTerm) as caught:
                    free_of(*args)
                self.assertIs(caught.exception.term, wrong)


def slow_grouped(word, pairs):
    """grouped, sentence by sentence."""
    left = sorted(pairs, key=lambda pair: slow_key(pair[0]))
    groups = []
    while left:
        witness = left[0][0]
        taken = [pair for pair in left if slow_renumbered(pair[0]) == slow_renumbered(witness)]
        left = [pair for pair in left if pair not in taken]
        solutions = []
        for own, solution in taken:
            table = dict(zip(slow_variables(own), [(k,) for k in slow_variables(witness)]))
            solutions.append(slow_replaced(solution, table))
        if word == "setof":
            rising = sorted(solutions, key=slow_key)
            solutions = [one for at, one in enumerate(rising) if at == 0 or one != rising[at - 1]]
        groups.append((witness, solutions))
    return groups


class Grouped(unittest.TestCase):
    def test_example(self):
        pairs = [("b", 1), ("a", 2), ("b", 0), (("f", D), D), (("f", F), ("g", F, G))]
        self.assertEqual(grouped("bagof", pairs), [("a", [2]), ("b", [1, 0]), (("f", D), [D, ("g", D, G)])])

    def test_setof(self):
        pairs = (("b", 1), ("b", 0), ("b", 1), ("a", "z"), ("a", ("f", A)), ("a", ("f", A)), ("a", ("f", B)))
        self.assertEqual(grouped("setof", pairs), [("a", ["z", ("f", A), ("f", B)]), ("b", [0, 1])])
        self.assertEqual(grouped("bagof", pairs), [("a", ["z", ("f", A), ("f", A), ("f", B)]), ("b", [1, 0, 1])])

    def test_no_pairs(self):
        for word in ("bagof", "setof"):
            self.assertEqual(grouped(word, []), [])
            self.assertEqual(grouped(word, ()), [])

    def test_variants_and_near_variants(self):
        pairs = [(("f", A, B), 1), (("f", C, C), 2), (("f", D, E), 3), (("f", B, B), 4), (("f", A, "x"), 5), (("f", B, A), 6)]
        self.assertEqual(grouped("bagof", pairs), [
            (("f", A, B), [1, 6, 3]), (("f", A, "x"), [5]), (("f", B, B), [4, 2])])

    def test_variables_are_replaced_all_at_once(self):
        pairs = [(("f", A, B), ("s", A, B, C)), (("f", B, A), ("s", A, B, C))]
        self.assertEqual(grouped("bagof", pairs), [(("f", A, B), [("s", A, B, C), ("s", B, A, C)])])
        self.assertEqual(grouped("setof", pairs), [(("f", A, B), [("s", A, B, C), ("s", B, A, C)])])

    def test_equal_solutions_once_replaced(self):
        pairs = [(A, ("s", A)), (B, ("s", B)), (C, "t")]
        self.assertEqual(grouped("setof", pairs), [(A, ["t", ("s", A)])])

    def test_arguments_stay_and_lists_are_new(self):
        pairs = [("b", 1), ("a", 2)]
        one = grouped("bagof", pairs)
        one[0][1].append("spoilt")
        one.clear()
        self.assertEqual(pairs, [("b", 1), ("a", 2)])
        self.assertEqual(grouped("bagof", pairs), [("a", [2]), ("b", [1])])

    def test_by_chance(self):
        rng = chance(31)
        for _ in range(500):
            pairs = [(some_term(rng, 2, (0, 1, 2, 3), most=2), some_term(rng, 2, (0, 1, 2, 4), most=2)) for _ in range(rng.randint(0, 7))]
            for word in ("bagof", "setof"):
                told = grouped(word, pairs)
                self.assertEqual(told, slow_grouped(word, pairs))
                for at, group in enumerate(told):
                    self.assertFalse(any(is_variant(group[0], other[0]) for other in told[:at]))

    def wrong(self, culprit, *args):
        with self.assertRaises(BadPairs) as caught:
            grouped(*args)
        self.assertIs(type(caught.exception), BadPairs)
        self.assertIs(caught.exception.pairs, culprit)

    def test_errors_in_their_order(self):
        for word in odd_terms() + ["", "findall", "Bagof", "bagof ", 1, ("bagof",)]:
            self.wrong(word, word, [])
            self.wrong(word, word, None)
        for pairs in odd_pairs():
            self.wrong(pairs, "bagof", pairs)
            self.wrong(pairs, "setof", pairs)


class Split(Asking):
    """[8.3]"""

    def asked(self, word, template, goal, found="[]"):
        return ((-1, 6), word, template, goal, found, (20,), (21,))

    def test_rows(self):
        for word in ("bagof", "setof"):
            self.told([[(D, list_of([C])), (E, ("p", B, A, C))]], *self.asked(word, A, ("^", B, ("p", B, A, C))))
            self.told([[(A, "[]"), (B, "a")]], *self.asked(word, "x", "a"))
            self.told([[(C, list_of([B])), (D, ("p", B))]], *self.asked(word, A, ("p", B)))
            self.told([[(B, "[]"), (C, ("p", 1))]], *self.asked(word, "x", ("p", 1), list_of([1], A)))
            self.told([[(B, "[]"), (C, ("p", 1))]], *self.asked(word, "x", ("p", 1), A))

    def test_errors_in_their_order(self):
        for word in ("bagof", "setof"):
            place = (word, 3)
            self.throws(INST, *self.asked(word, "x", A), place=place)
            self.throws(INST, *self.asked(word, "x", A, "no list"), place=place)
            self.throws(INST, *self.asked(word, "x", ("^", A, B)), place=place)
            self.throws(type_error("callable", 5), *self.asked(word, "x", 5, "no list"), place=place)
            self.throws(type_error("callable", 5), *self.asked(word, "x", ("^", A, 5)), place=place)
            for wrong in ("no list", 5, ("f", 1), list_of([1], "x")):
                self.throws(type_error("list", wrong), *self.asked(word, "x", "a", wrong), place=place)


class Groups(Asking):
    """[8.5]"""

    KEY = (-2, 4)

    def test_rows(self):
        items = list_of([("-", "b", 1), ("-", "a", 2), ("-", "b", 0), ("-", "b", 1)])
        self.told([[(A, "a"), (B, list_of([2]))], [(A, "b"), (B, list_of([1, 0, 1]))]], self.KEY, "bagof", A, items, B)
        self.told([[(A, "a"), (B, list_of([2]))], [(A, "b"), (B, list_of([0, 1]))]], self.KEY, "setof", A, items, B)

    def test_variants(self):
        items = list_of([("-", ("w", C), ("f", C)), ("-", ("w", D), ("g", D))])
        self.told([[(A, ("w", B)), (D, list_of([("f", B), ("g", B)]))]], self.KEY, "bagof", A, items, (7,))

    def test_no_solutions(self):
        for word in ("bagof", "setof"):
            self.fails(self.KEY, word, A, "[]", B)


class Aggregates(Asking):
    """[8.6]"""

    PLACE = ("aggregate_all", 3)

    def test_templates(self):
        key = (-3, 4)
        self.told([[(B, "true")]], key, "count", "g", A, B)
        for word in ("sum", "max", "min", "bag", "set"):
            self.told([[(D, A)]], key, (word, A), ("g", B), C, D)
            self.told([[(B, ("f", 1))]], key, (word, ("f", 1)), "g", A, B)

    def test_template_errors_in_their_order(self):
        key = (-3, 4)
        self.throws(INST, key, A, B, C, D, place=self.PLACE)
        for wrong in ("sum", "total", "", 5, ("count", 1), ("sum", 1, 2), ("avg", 1), ("f", 1), "[]"):
            self.throws(domain_error("aggregate", wrong), key, wrong, A, B, C, place=self.PLACE)
        self.throws(INST, key, "count", A, B, C, place=self.PLACE)
        self.throws(INST, key, ("sum", A), B, C, D, place=self.PLACE)
        self.throws(type_error("callable", 5), key, ("max", A), 5, C, D, place=self.PLACE)

    def test_results(self):
        key = (-4, 3)
        items = list_of([3, ("+", 2, 5), -1, 3])
        self.told([[(A, 4)]], key, "count", items, A)
        self.told([[(A, 12)]], key, ("sum", "e"), items, A)
        self.told([[(A, 7)]], key, ("max", "e"), items, A)
        self.told([[(A, -1)]], key, ("min", "e"), items, A)
        self.told([[(A, items)]], key, ("bag", "e"), items, A)
        self.told([[(A, list_of([-1, 3, ("+", 2, 5)]))]], key, ("set", "e"), items, A)
        self.told([[("x", 12)]], key, ("sum", "e"), items, "x")

    def test_no_solutions(self):
        key = (-4, 3)
        self.told([[(A, 0)]], key, "count", "[]", A)
        self.told([[(A, 0)]], key, ("sum", "e"), "[]", A)
        self.told([[(A, "[]")]], key, ("bag", "e"), "[]", A)
        self.told([[(A, "[]")]], key, ("set", "e"), "[]", A)
        self.fails(key, ("max", "e"), "[]", A)
        self.fails(key, ("min", "e"), "[]", A)

    def test_errors(self):
        key = (-4, 3)
        for word in ("sum", "max", "min"):
            self.throws(type_error("evaluable", ("/", "a", 0)), key, (word, "e"), list_of([1, "a", A]), B, place=self.PLACE)
            self.throws(INST, key, (word, "e"), list_of([1, A, "a"]), B, place=self.PLACE)
            self.throws(resource_error("integer"), key, (word, "e"), list_of([("+", GREAT, 1), "a"]), A, place=self.PLACE)
        self.throws(resource_error("integer"), key, ("sum", "e"), list_of([GREAT, 1]), A, place=self.PLACE)
        self.throws(resource_error("integer"), key, ("sum", "e"), list_of([-GREAT, -1]), A, place=self.PLACE)
        # Only the sum as a whole must not be too great.
        self.told([[(A, GREAT)]], key, ("sum", "e"), list_of([GREAT, 1, -1]), A)
        self.told([[(A, GREAT)]], key, ("max", "e"), list_of([GREAT, 1]), A)


class Terms(unittest.TestCase):
    def test_all_of_the_library_but_its_keys_are_terms(self):
        for _, args, goals in library():
            for terms in [args] + [goal[2] for goal in goals]:
                self.assertTrue(all(is_term(term) for term in terms))


if __name__ == "__main__":
    unittest.main()
