"""[5.2] to [5.9]: the builtins that look at terms and make them."""

import unittest

from hornmill.general import subsumes
from hornmill.unify import unify
from tests.asking import INST, Asking, domain_error, representation_error, type_error
from tests.support import chance, list_of, slow_renumbered, slow_replaced, slow_variables, some_term, tower

A, B, C = (0,), (1,), (2,)
SAMPLES = [(0,), (1,), 0, -7, 10 ** 299, "a", "", "[]", "{}", ("f", "a"), ("f", (0,)), ("-", 1, 2), ("f",) + ("a",) * 8,
           (".", 1, "[]"), (".", 1, (".", 2, (0,))), (".", 1, "x"), (".", 1, 2), (".", 1), tower(300), list_of(range(250))]


class Tests(Asking):
    def judged(self, name, good):
        for term in SAMPLES:
            if good(term):
                self.passes((name, 1), term)
            else:
                self.fails((name, 1), term)

    def test_kinds(self):
        def is_var(term):
            return isinstance(term, tuple) and len(term) == 1

        def is_compound(term):
            return isinstance(term, tuple) and len(term) > 1

        self.judged("var", is_var)
        self.judged("nonvar", lambda term: not is_var(term))
        self.judged("atom", lambda term: isinstance(term, str))
        self.judged("integer", lambda term: isinstance(term, int))
        self.judged("atomic", lambda term: isinstance(term, (str, int)))
        self.judged("compound", is_compound)
        self.judged("callable", lambda term: isinstance(term, str) or is_compound(term))
        self.judged("ground", lambda term: not slow_variables(term))
        self.judged("is_list", lambda term: term in ("[]", (".", 1, "[]"), list_of(range(250))))

    def test_lists(self):
        self.passes(("is_list", 1), list_of([A, B]))
        self.fails(("is_list", 1), A)
        self.fails(("is_list", 1), list_of([1], A))
        self.fails(("is_list", 1), list_of([1], "nil"))
        self.fails(("is_list", 1), (".", 1, "[]", "[]"))
        self.fails(("is_list", 1), ("[]", "a"))
        self.fails(("is_list", 1), ("-", "a", "[]"))
        self.fails(("is_list", 1), (".", "a", (",", "b", "[]")))

    def test_order(self):
        names = {"<": ("@<", "@=<", "\\=="), "=": ("==", "@=<", "@>="), ">": ("@>", "@>=", "\\==")}
        rising = [A, -1, 0, 5, "", "[]", "a", "b", ("b", 1), ("f", A), ("f", "a"), ("f", ("a", 1)), ("a", 1, 1), ("f", 1, 0)]
        for at, one in enumerate(rising):
            for place, other in enumerate(rising):
                sign = "<" if at < place else "=" if at == place else ">"
                for name in ("==", "\\==", "@<", "@>", "@=<", "@>="):
                    (self.passes if name in names[sign] else self.fails)((name, 2), one, other)

    def test_variables_are_ordered_by_their_first_occurrence_in_the_call(self):
        for one, other in ((A, B), (B, A)):
            self.passes(("@<", 2), one, other)
            self.fails(("@>", 2), one, other)
            self.fails(("==", 2), one, other)
            self.told([[(A, "<")]], ("compare", 3), (5,), one, other)
        self.passes(("@>", 2), ("f", A, B), ("f", A, A))
        self.passes(("==", 2), ("f", B, A), ("f", B, A))
        self.passes(("@<", 2), ("f", B, A), ("f", A, B))
        # The first argument of compare has the first variable.
        self.told([[(A, ">")]], ("compare", 3), A, B, A)
        self.told([[(A, "<")]], ("compare", 3), A, A, B)

    def test_compare(self):
        for sign, one, other in (("<", 1, 2), ("=", "a", "a"), (">", ("f", 1), 2)):
            self.told([[(A, sign)]], ("compare", 3), A, one, other)
            for given in ("<", "=", ">"):
                rows = self.rows(("compare", 3), given, one, other)
                self.assertEqual(unify(rows[0]) is not None, given == sign)
                self.assertEqual(len(rows), 1)
        for wrong in (1, ("f", A), ("<", 1, 2)):
            self.throws(type_error("atom", wrong), ("compare", 3), wrong, 1, 2)
        for wrong in ("a", "", "=<", "=="):
            self.throws(domain_error("order", wrong), ("compare", 3), wrong, 1, 2)

    def test_cannot_unify(self):
        self.fails(("\\=", 2), A, "a")
        self.fails(("\\=", 2), ("f", A, B), ("f", B, "a"))
        self.passes(("\\=", 2), "a", "b")
        self.passes(("\\=", 2), A, ("f", A))
        self.passes(("\\=", 2), ("f", A, A), ("f", B, ("g", B)))

    def test_subsumes_term(self):
        key = ("subsumes_term", 2)
        self.passes(key, A, B)
        self.passes(key, A, A)
        self.passes(key, A, "a")
        self.passes(key, ("f", A, A), ("f", "b", "b"))
        self.passes(key, ("f", A, B), ("f", A, "a"))
        self.passes(key, ("f", A, B), ("f", ("g", C), ("g", C)))
        self.fails(key, "a", A)
        self.fails(key, ("f", A, A), ("f", "a", "b"))
        self.fails(key, ("f", A), ("f", ("g", A)))
        self.fails(key, A, ("f", A))
        self.fails(key, ("f", A, B), ("f", B, A))
        self.fails(key, ("f", A, B), ("f", "a", A))
        self.fails(key, ("f", "a"), ("g", "a"))


class Makers(Asking):
    def test_equal(self):
        for one in SAMPLES:
            for other in (A, (5,), "a", ("f", (0,), (1,))):
                numbered = slow_renumbered(("", one, other))
                self.assertEqual(self.rows(("=", 2), one, other), [[(numbered[1], numbered[2])]])

    def test_fail(self):
        self.fails(("fail", 0))

    def test_copy_term(self):
        self.told([[(B, C)]], ("copy_term", 2), A, B)
        self.told([[(A, B)]], ("copy_term", 2), A, A)
        self.told([[(C, ("f", (3,), (4,), (3,)))]], ("copy_term", 2), ("f", A, B, A), C)
        self.told([[(A, ("f", (1,), "b"))]], ("copy_term", 2), ("f", A, "b"), A)
        self.told([[("b", "a")]], ("copy_term", 2), "a", "b")

    def test_term_variables(self):
        key = ("term_variables", 2)
        self.told([[(C, list_of([A, B]))]], key, ("f", A, ("g", B, A)), C)
        self.told([[("x", "[]")]], key, ("f", 1), "x")
        self.told([[(A, list_of([A]))]], key, A, A)
        self.told([[(C, list_of([A, B]))]], key, ("f", (9,), (3,)), (5,))

    def test_functor_of_a_term(self):
        key = ("functor", 3)
        self.told([[(A, "f"), (B, 2)]], key, ("f", "a", "b"), A, B)
        self.told([[(B, "f"), (C, 2)]], key, ("f", A, A), B, C)
        self.told([[("g", "f"), (7, 1)]], key, ("f", "a"), "g", 7)
        self.told([[(A, "a"), (B, 0)]], key, "a", A, B)
        self.told([[(A, -3), (B, 0)]], key, -3, A, B)
        # No errors, whatever the others are.
        self.told([[(("h", 1), "f"), ("x", 1)]], key, ("f", "a"), ("h", 1), "x")

    def test_functor_of_a_variable(self):
        key = ("functor", 3)
        self.told([[(A, "f")]], key, A, "f", 0)
        self.told([[(A, 5)]], key, A, 5, 0)
        self.told([[(A, ("f", B))]], key, A, "f", 1)
        self.told([[(A, ("f",) + tuple((k,) for k in range(1, 9)))]], key, A, "f", 8)
        self.throws(representation_error("max_arity"), key, A, "f", 9)
        self.throws(representation_error("max_arity"), key, A, "f", 10 ** 299)

    def test_functor_errors_in_their_order(self):
        key = ("functor", 3)
        self.throws(INST, key, A, B, C)
        self.throws(INST, key, A, B, "x")
        self.throws(INST, key, A, A, 1)
        self.throws(type_error("atomic", ("f", B)), key, A, ("f", B), C)
        self.throws(type_error("atomic", ("f", "a")), key, A, ("f", "a"), -1)
        self.throws(INST, key, A, 5, B)
        self.throws(INST, key, A, "f", B)
        self.throws(type_error("integer", "x"), key, A, 5, "x")
        self.throws(type_error("integer", ("f", A)), key, A, "f", ("f", A))
        self.throws(domain_error("not_less_than_zero", -1), key, A, 5, -1)
        self.throws(domain_error("not_less_than_zero", -1), key, A, "f", -1)
        self.throws(type_error("atom", 5), key, A, 5, 1)
        self.throws(type_error("atom", 5), key, A, 5, 9)

    def test_arg(self):
        key = ("arg", 3)
        term = ("f", "a", A, "c")
        for at in (1, 2, 3):
            self.told([[(B, term[at])]], key, at, term, B)
        self.told([[("x", "a")]], key, 1, term, "x")
        for at in (0, 4, 10 ** 299):
            self.fails(key, at, term, B)
        self.told([[(A, 1), (B, "x")], [(A, 2), (B, "y")]], key, A, ("f", "x", "y"), B)
        self.told([[(A, 1), (A, 3)], [(A, 2), (A, 2)]], key, A, ("f", 3, 2), A)
        self.told([[(A, 1), ("b", "a")], [(A, 2), ("b", "b")]], key, A, ("f", "a", "b"), "b")
        self.told([[(A, k), (B, k)] for k in range(1, 9)], key, A, ("f", 1, 2, 3, 4, 5, 6, 7, 8), B)
        self.told([[(A, 1), (C, B)]], key, A, ("f", B), C)

    def test_arg_errors_in_their_order(self):
        key = ("arg", 3)
        self.throws(type_error("integer", "a"), key, "a", A, B)
        self.throws(type_error("integer", ("f", 1)), key, ("f", 1), "a", B)
        self.throws(domain_error("not_less_than_zero", -1), key, -1, A, B)
        self.throws(domain_error("not_less_than_zero", -1), key, -1, "a", B)
        self.throws(INST, key, 1, A, B)
        self.throws(INST, key, A, B, C)
        self.throws(INST, key, A, A, C)
        self.throws(type_error("compound", "a"), key, 1, "a", B)
        self.throws(type_error("compound", 5), key, A, 5, B)
        self.throws(type_error("compound", "a"), key, 0, "a", B)

    def test_univ_of_a_term(self):
        key = ("=..", 2)
        self.told([[(A, list_of(["f", "a", "b"]))]], key, ("f", "a", "b"), A)
        self.told([[(B, list_of(["f", A]))]], key, ("f", A), B)
        self.told([[(A, list_of(["a"]))]], key, "a", A)
        self.told([[(A, list_of([-1]))]], key, -1, A)
        self.told([[(7, list_of(["f", "a"]))]], key, ("f", "a"), 7)
        self.told([[(list_of([1], "x"), list_of(["f", "a"]))]], key, ("f", "a"), list_of([1], "x"))
        self.told([[(A, list_of(["f"] + list(range(8))))]], key, ("f",) + tuple(range(8)), A)

    def test_univ_of_a_variable(self):
        key = ("=..", 2)
        self.told([[(A, "a")]], key, A, list_of(["a"]))
        self.told([[(A, 3)]], key, A, list_of([3]))
        self.told([[(A, ("f", B, 1))]], key, A, list_of(["f", B, 1]))
        self.told([[(A, ("f", A))]], key, A, list_of(["f", A]))
        self.told([[(A, ("f",) + tuple(range(8)))]], key, A, list_of(["f"] + list(range(8))))

    def test_univ_errors_in_their_order(self):
        key = ("=..", 2)
        self.throws(INST, key, A, B)
        self.throws(INST, key, A, A)
        self.throws(INST, key, A, list_of(["f"], B))
        self.throws(INST, key, A, list_of([5], A))
        self.throws(type_error("list", "a"), key, A, "a")
        self.throws(type_error("list", 5), key, A, 5)
        self.throws(type_error("list", list_of([B], "x")), key, A, list_of([B], "x"))
        self.throws(domain_error("non_empty_list", "[]"), key, A, "[]")
        self.throws(INST, key, A, list_of([B]))
        self.throws(INST, key, A, list_of([B, 1]))
        self.throws(INST, key, A, list_of([B] + [1] * 9))
        self.throws(type_error("atomic", ("f", 1)), key, A, list_of([("f", 1)]))
        self.throws(type_error("atom", ("f", 1)), key, A, list_of([("f", 1), 2]))
        self.throws(type_error("atom", 5), key, A, list_of([5, 2]))
        self.throws(type_error("atom", 5), key, A, list_of([5] + [2] * 9))
        self.throws(representation_error("max_arity"), key, A, list_of(["f"] + [2] * 9))
        self.throws(representation_error("max_arity"), key, A, list_of(["f"] * 200))


class Facts(Asking):
    def test_by_chance(self):
        rng = chance(5)
        for _ in range(600):
            one = some_term(rng, 3, (0, 1))
            other = some_term(rng, 3, (0, 1))
            numbered = slow_renumbered(("", one, other))
            cannot = unify([(numbered[1], numbered[2])]) is None
            (self.passes if cannot else self.fails)(("\\=", 2), one, other)
            apart = slow_replaced(other, {0: (7,), 1: (8,)})
            (self.passes if subsumes(one, apart) else self.fails)(("subsumes_term", 2), one, apart)
            holding = [name for name in ("@<", "==", "@>") if self.rows((name, 2), one, other)]
            self.assertEqual(len(holding), 1)
            if isinstance(one, tuple) and len(one) > 1:
                self.undone(slow_renumbered(one))

    def undone(self, term):
        """T =.. L undoes itself; functor and arg make a copy of the outside."""
        fresh = (99,)
        items = self.rows(("=..", 2), term, fresh)[0][0][1]
        back = slow_renumbered(("", fresh, items))
        self.assertEqual(slow_renumbered(self.rows(("=..", 2), back[1], back[2])[0][0][1]), term)
        name, many = [pair[1] for pair in self.rows(("functor", 3), term, (98,), fresh)[0]]
        self.assertEqual((name, many), (term[0], len(term) - 1))
        made = self.rows(("functor", 3), fresh, name, many)[0][0][1]
        self.assertEqual(made, (term[0],) + tuple((k,) for k in range(1, many + 1)))
        args = [self.rows(("arg", 3), at + 1, term, fresh)[0][0][1] for at in range(many)]
        self.assertEqual(tuple(args), term[1:])


if __name__ == "__main__":
    unittest.main()
