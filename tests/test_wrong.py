"""[0.7], [1.2]: what is raised for wrong arguments, and what its field holds."""

import unittest

from hornmill.errors import BadBindings, BadPairs, BadTerm
from hornmill.general import is_variant, join_of, matching, meet_of, subsumes
from hornmill.order import compare_terms, sort_terms
from hornmill.terms import depth_of, renumbered, size_of, variables_of
from hornmill.unify import is_most_general, is_unifier, resolved_term, unify
from tests.support import odd_bindings, odd_pairs, odd_terms

OF_ONE_TERM = (size_of, depth_of, variables_of, renumbered)
OF_TWO_TERMS = (compare_terms, matching, subsumes, is_variant, meet_of, join_of)
OF_BOTH = (is_unifier, is_most_general)


class Wrong(unittest.TestCase):
    def check(self, error, field, value, call, *args):
        with self.subTest(call=call.__name__, kind=type(value).__name__):
            with self.assertRaises(error) as caught:
                call(*args)
            self.assertIs(type(caught.exception), error)
            self.assertIs(getattr(caught.exception, field), value)


class WrongTerms(Wrong):
    def test_functions_of_one_term(self):
        for call in OF_ONE_TERM:
            for wrong in odd_terms():
                self.check(BadTerm, "term", wrong, call, wrong)

    def test_functions_of_two_terms(self):
        for call in OF_TWO_TERMS:
            for wrong in odd_terms():
                self.check(BadTerm, "term", wrong, call, wrong, "a")
                self.check(BadTerm, "term", wrong, call, "a", wrong)
                self.check(BadTerm, "term", wrong, call, ("f", (0,)), wrong)

    def test_the_first_of_two_wrong_terms_is_told(self):
        for call in OF_TWO_TERMS:
            one, other = ["one"], ["other"]
            self.check(BadTerm, "term", one, call, one, other)
            self.check(BadTerm, "term", other, call, other, one)

    def test_sort_terms_of_what_is_no_list_or_tuple(self):
        for wrong in odd_terms() + ["a", 1]:
            if not isinstance(wrong, (list, tuple)):
                self.check(BadTerm, "term", wrong, sort_terms, wrong)

    def test_sort_terms_of_what_is_no_term(self):
        for wrong in odd_terms():
            self.check(BadTerm, "term", wrong, sort_terms, [wrong])
            self.check(BadTerm, "term", wrong, sort_terms, ("a", wrong))
            self.check(BadTerm, "term", wrong, sort_terms, ["a", wrong, ["later"]])

    def test_resolved_term(self):
        for wrong in odd_terms():
            self.check(BadTerm, "term", wrong, resolved_term, wrong, [])
            self.check(BadTerm, "term", wrong, resolved_term, wrong, None)
        for wrong in odd_bindings():
            self.check(BadBindings, "bindings", wrong, resolved_term, "a", wrong)
            self.check(BadBindings, "bindings", wrong, resolved_term, (0,), wrong)


class WrongPairs(Wrong):
    def test_unify(self):
        for wrong in odd_pairs():
            self.check(BadPairs, "pairs", wrong, unify, wrong)

    def test_functions_of_pairs_and_bindings(self):
        for call in OF_BOTH:
            for wrong in odd_pairs():
                self.check(BadPairs, "pairs", wrong, call, wrong, [])
            for wrong in odd_bindings():
                self.check(BadBindings, "bindings", wrong, call, [], wrong)
                self.check(BadBindings, "bindings", wrong, call, [("a", "b")], wrong)
                self.check(BadBindings, "bindings", wrong, call, [((0,), (1,))], wrong)

    def test_pairs_are_told_ahead_of_bindings(self):
        for call in OF_BOTH:
            for wrong in odd_pairs()[::3]:
                for other in odd_bindings()[::5]:
                    self.check(BadPairs, "pairs", wrong, call, wrong, other)

    def test_a_pair_that_differs_does_not_hide_a_wrong_one(self):
        wrong = [("a", "b"), ("a", None)]
        self.check(BadPairs, "pairs", wrong, unify, wrong)
        self.check(BadPairs, "pairs", wrong, is_unifier, wrong, [])


class Right(unittest.TestCase):
    def test_pairs_may_be_a_list_or_a_tuple(self):
        for pairs in ([((0,), "a")], (((0,), "a"),)):
            self.assertEqual(unify(pairs), [(0, "a")])
            for bindings in ([(0, "a")], ((0, "a"),)):
                self.assertIs(is_unifier(pairs, bindings), True)
                self.assertIs(is_most_general(pairs, bindings), True)
                self.assertEqual(resolved_term(("f", (0,)), bindings), ("f", "a"))
        for pairs in ([], ()):
            self.assertEqual(unify(pairs), [])
            for bindings in ([], ()):
                self.assertIs(is_most_general(pairs, bindings), True)

    def test_bindings_that_only_look_like_rounds(self):
        for bindings in ([(0, (1,)), (1, (2,))], [(0, ("f", (1,), (1,))), (1, ("g", (2,), (2,)))], [(2, (0,)), (3, (2,))],
                         [(0, (3,)), (1, (3,)), (2, ("f", (0,), (1,))), (3, (4,))], [(10 ** 40, (0,))]):
            with self.subTest(str(bindings)):
                self.assertIs(is_unifier([], bindings), True)

    def test_arguments_stay(self):
        pairs = [(("f", (0,), (1,)), ("f", (1,), "a"))]
        bindings = [(0, (1,)), (1, "a")]
        terms = ["b", (3,), "a"]
        unify(pairs)
        is_unifier(pairs, bindings)
        is_most_general(pairs, bindings)
        resolved_term((0,), bindings)
        sort_terms(terms)
        self.assertEqual(pairs, [(("f", (0,), (1,)), ("f", (1,), "a"))])
        self.assertEqual(bindings, [(0, (1,)), (1, "a")])
        self.assertEqual(terms, ["b", (3,), "a"])


if __name__ == "__main__":
    unittest.main()
