"""[5.20] to [5.29]: the builtins of texts, lists and numbers."""

import unittest

from hornmill.builtins import builtin_row
from tests.asking import INST, Asking, domain_error, representation_error, resource_error, type_error
from tests.support import chance, list_of, slow_renumbered, some_term

A, B, C, D, E = [(k,) for k in range(5)]
CODES = [code for code in range(32, 127) if code != 37]
NO_CODES = [37, 31, 127, 0, -1, 10, 128, 10 ** 299]
PARTIAL = list_of(["a"], (9,))
GREAT = 10 ** 300 - 1


def codes(text):
    return list_of([ord(sign) for sign in text])


class Atoms(Asking):
    def test_atom_length(self):
        key = ("atom_length", 2)
        for atom in ("", "a", "[]", "hello world", "a" * 40):
            self.told([[(A, len(atom))]], key, atom, A)
        self.told([[(7, 3)]], key, "abc", 7)
        self.throws(INST, key, A, B)
        self.throws(INST, key, A, "a")
        self.throws(type_error("atom", 5), key, 5, "a")
        self.throws(type_error("atom", ("f", A)), key, ("f", A), -1)
        self.throws(type_error("integer", "a"), key, "abc", "a")
        self.throws(type_error("integer", ("f", A)), key, "abc", ("f", A))
        self.throws(domain_error("not_less_than_zero", -1), key, "abc", -1)
        self.told([[(0, 3)]], key, "abc", 0)

    def test_atom_chars_and_codes_of_an_atom(self):
        every = "".join(chr(code) for code in CODES)
        for atom in ("", "a", "abc", every[:40], every[40:80], every[80:], "''"):
            self.told([[(A, list_of(list(atom)))]], ("atom_chars", 2), atom, A)
            self.told([[(A, codes(atom))]], ("atom_codes", 2), atom, A)
        for name in ("atom_chars", "atom_codes"):
            # What else is handed in is not looked at.
            for other in (5, "x", ("f", A), list_of([A], 3)):
                self.assertEqual(len(self.rows((name, 2), "ab", other)), 1)
            self.throws(type_error("atom", 5), (name, 2), 5, A)
            self.throws(type_error("atom", ("f", A)), (name, 2), ("f", A), "x")

    def test_atom_chars_of_a_list(self):
        key = ("atom_chars", 2)
        self.told([[(A, "")]], key, A, "[]")
        self.told([[(A, "a b")]], key, A, list_of(["a", " ", "b"]))
        self.told([[(A, "x" * 40)]], key, A, list_of(["x"] * 40))
        self.throws(representation_error("max_atom"), key, A, list_of(["x"] * 41))
        for wrong in ("", "ab", 5, ("f", "a"), ("a", "b")):
            self.throws(type_error("character", wrong), key, A, list_of(["a", wrong, B]))
        self.throws(INST, key, A, list_of(["a", B, "wrong"]))
        self.throws(INST, key, A, list_of(["a", A]))
        self.throws(type_error("character", "wrong"), key, A, list_of(["x"] * 41 + ["wrong"]))

    def test_atom_codes_of_a_list(self):
        key = ("atom_codes", 2)
        self.told([[(A, "")]], key, A, "[]")
        for code in CODES:
            self.told([[(A, "a" + chr(code))]], key, A, list_of([97, code]))
        for code in NO_CODES:
            self.throws(representation_error("character"), key, A, list_of([97, code, B]))
        self.told([[(A, "x" * 40)]], key, A, codes("x" * 40))
        self.throws(representation_error("max_atom"), key, A, codes("x" * 41))
        for wrong in ("a", ("f", "a")):
            self.throws(type_error("integer", wrong), key, A, list_of([97, wrong, 37]))
        self.throws(INST, key, A, list_of([97, B, 37]))
        self.throws(representation_error("character"), key, A, list_of([97, 37, B]))

    def test_lists_that_are_none(self):
        for name in ("atom_chars", "atom_codes", "number_codes"):
            self.throws(INST, (name, 2), A, B)
            self.throws(INST, (name, 2), A, A)
            self.throws(INST, (name, 2), A, list_of(["wrong", 37], B))
            for wrong in ("x", 5, ("f", B), list_of(["a", B], "x"), (".", 1), (".", 1, 2, 3)):
                self.throws(type_error("list", wrong), (name, 2), A, wrong)

    def test_char_code(self):
        key = ("char_code", 2)
        for code in CODES:
            self.told([[(A, code)]], key, chr(code), A)
            self.told([[(A, chr(code))]], key, A, code)
        self.told([[(98, 97)]], key, "a", 98)
        self.throws(INST, key, A, B)
        self.throws(INST, key, A, A)
        for wrong in ("", "ab", 5, ("f", "a"), "[]"):
            self.throws(type_error("character", wrong), key, wrong, A)
            self.throws(type_error("character", wrong), key, wrong, "x")
        for wrong in ("x", ("f", "a")):
            self.throws(type_error("integer", wrong), key, A, wrong)
            self.throws(type_error("integer", wrong), key, "a", wrong)
        for wrong in NO_CODES:
            self.throws(representation_error("character"), key, A, wrong)
            self.throws(representation_error("character"), key, "a", wrong)

    def test_number_codes(self):
        key = ("number_codes", 2)
        for number in (0, 7, -7, 120, -10 ** 20, GREAT, -GREAT):
            self.told([[(A, codes(str(number)))]], key, number, A)
            self.told([[(A, number)]], key, A, codes(str(number)))
        self.told([[("x", codes("12"))]], key, 12, "x")
        self.told([[(A, 7)]], key, A, codes("007"))
        self.told([[(A, 0)]], key, A, codes("-0"))
        self.told([[(A, -12)]], key, A, codes("-012"))
        self.told([[(A, 0)]], key, A, codes("0" * 290))
        self.told([[(A, GREAT)]], key, A, codes("0" + "9" * 300))
        self.throws(resource_error("integer"), key, A, codes("1" + "0" * 300))
        self.throws(resource_error("integer"), key, A, codes("-1" + "0" * 300))
        for text in ("", "-", "--1", "+1", "1-", " 1", "1 ", "a", "1a", "0'a", "1.0", "1" * 301 + "x"):
            self.throws(domain_error("number", codes(text)), key, A, codes(text))
        self.throws(type_error("integer", "a"), key, "a", A)
        self.throws(type_error("integer", ("f", 1)), key, ("f", 1), "x")
        self.throws(type_error("integer", "1"), key, A, list_of([49, "1", 37]))
        self.throws(representation_error("character"), key, A, list_of([49, 37, B]))
        self.throws(INST, key, A, list_of([49, B]))


class Concat(Asking):
    KEY = ("atom_concat", 3)

    def test_two_atoms(self):
        for one, other in (("", ""), ("a", ""), ("", "b"), ("ab", "cd"), ("x" * 20, "y" * 20)):
            self.told([[(A, one + other)]], self.KEY, one, other, A)
        self.told([[("z", "ab")]], self.KEY, "a", "b", "z")
        self.throws(representation_error("max_atom"), self.KEY, "x" * 20, "y" * 21, A)
        self.throws(representation_error("max_atom"), self.KEY, "x" * 40, "y", "z")

    def test_one_atom(self):
        self.told([[(A, "c")]], self.KEY, "ab", A, "abc")
        self.told([[(A, "abc")]], self.KEY, "", A, "abc")
        self.told([[(A, "")]], self.KEY, "abc", A, "abc")
        self.told([[(A, "ab")]], self.KEY, A, "c", "abc")
        self.told([[(A, "abc")]], self.KEY, A, "", "abc")
        self.told([[(A, "")]], self.KEY, A, "abc", "abc")
        for wrong in ("b", "abcd", "x"):
            self.fails(self.KEY, wrong, A, "abc")
        for wrong in ("b", "xabc", "x"):
            self.fails(self.KEY, A, wrong, "abc")

    def test_all_parts(self):
        self.told([[(A, ""), (B, "abc")], [(A, "a"), (B, "bc")], [(A, "ab"), (B, "c")], [(A, "abc"), (B, "")]],
                  self.KEY, A, B, "abc")
        self.told([[(A, ""), (B, "")]], self.KEY, A, B, "")
        self.told([[(A, ""), (A, "aa")], [(A, "a"), (A, "a")], [(A, "aa"), (A, "")]], self.KEY, A, A, "aa")
        self.assertEqual(len(self.rows(self.KEY, A, B, "x" * 40)), 41)

    def test_errors_in_their_order(self):
        self.throws(type_error("atom", 1), self.KEY, 1, 2, 3)
        self.throws(type_error("atom", 2), self.KEY, A, 2, 3)
        self.throws(type_error("atom", ("f", "a")), self.KEY, A, "b", ("f", "a"))
        self.throws(type_error("atom", 3), self.KEY, "a", "b", 3)
        self.throws(type_error("atom", 2), self.KEY, A, 2, B)
        self.throws(INST, self.KEY, A, B, C)
        self.throws(INST, self.KEY, "a", B, C)
        self.throws(INST, self.KEY, A, "b", C)
        self.throws(INST, self.KEY, A, "b", A)


class SubAtom(Asking):
    KEY = ("sub_atom", 5)

    def slow(self, atom, given):
        """The rows [5.26], from the words: given are the other four, None for a variable."""
        many = len(atom)
        found = []
        for b in range(many + 1):
            for size in range(many + 1 - b):
                row = (b, size, many - b - size, atom[b:b + size])
                if all(one is None or one == told for one, told in zip(given, row)):
                    found.append(row)
        return found

    def test_all_kinds(self):
        rng = chance(8)
        for atom in ("", "a", "abcab", "aaa", "hello"):
            for _ in range(60):
                given = [rng.choice([None, None, rng.randint(0, 6)]) for _ in range(3)]
                given.append(rng.choice([None, None, "", "a", "ab", "l", atom]))
                args = [(at,) if one is None else one for at, one in enumerate(given)]
                args = slow_renumbered(("", "", *args))[2:]
                wanted = [list(zip(args, row)) for row in self.slow(atom, given)]
                if wanted:
                    self.told(wanted, self.KEY, atom, *args)
                else:
                    self.fails(self.KEY, atom, *args)

    def test_the_order_of_rows(self):
        rows = [[(A, b), (B, size), (C, 2 - b - size), (D, "ab"[b:b + size])]
                for b, size in ((0, 0), (0, 1), (0, 2), (1, 0), (1, 1), (2, 0))]
        self.told(rows, self.KEY, "ab", A, B, C, D)

    def test_a_variable_that_stands_twice(self):
        # Rows are told whether or not their pairs can be unified.
        rows = self.rows(self.KEY, "ab", A, A, B, C)
        self.assertEqual(len(rows), 6)
        self.told([[(A, b), (A, size), (B, 2 - b - size), (C, "ab"[b:b + size])]
                   for b, size in ((0, 0), (0, 1), (0, 2), (1, 0), (1, 1), (2, 0))], self.KEY, "ab", A, A, B, C)

    def test_forty_signs(self):
        self.assertEqual(len(self.rows(self.KEY, "x" * 40, A, 39, B, C)), 2)
        self.assertEqual(len(self.rows(self.KEY, "x" * 40, A, B, C, "x" * 30)), 11)

    def test_errors_in_their_order(self):
        self.throws(INST, self.KEY, A, "b", "l", "r", 5)
        self.throws(type_error("atom", 1), self.KEY, 1, "b", "l", "r", 5)
        self.throws(type_error("atom", ("f", 1)), self.KEY, ("f", 1), -1, A, B, C)
        self.throws(type_error("integer", "b"), self.KEY, "abc", "b", "l", "r", 5)
        self.throws(type_error("integer", "l"), self.KEY, "abc", -1, "l", "r", 5)
        self.throws(type_error("integer", ("f", 1)), self.KEY, "abc", -1, A, ("f", 1), 5)
        self.throws(type_error("atom", 5), self.KEY, "abc", -1, -2, -3, 5)
        self.throws(domain_error("not_less_than_zero", -1), self.KEY, "abc", -1, -2, -3, "x")
        self.throws(domain_error("not_less_than_zero", -2), self.KEY, "abc", 7, -2, -3, "x")
        self.throws(domain_error("not_less_than_zero", -3), self.KEY, "abc", A, B, -3, C)


class Numbers(Asking):
    KEY = ("between", 3)

    def test_a_number(self):
        for low, high, number in ((1, 3, 1), (1, 3, 3), (0, 0, 0), (-5, 10 ** 299, 7)):
            self.passes(self.KEY, low, high, number)
        for low, high, number in ((1, 3, 0), (1, 3, 4), (3, 1, 2), (2, 1, 1)):
            self.fails(self.KEY, low, high, number)

    def test_rows(self):
        self.told([[(A, -1)], [(A, 0)], [(A, 1)]], self.KEY, -1, 1, A)
        self.told([[(A, 5)]], self.KEY, 5, 5, A)
        self.fails(self.KEY, 5, 4, A)
        self.fails(self.KEY, 0, -10 ** 299, A)

    def test_a_great_last_number(self):
        k = 0
        for number in range(7, 57):
            word, pairs, k = builtin_row(None, self.KEY, (7, GREAT, A), k)
            self.assertEqual((word, pairs), ("row", [(A, number)]))
        self.assertEqual(builtin_row(None, self.KEY, (GREAT, GREAT, A), 0), ("row", [(A, GREAT)], None))

    def test_errors_in_their_order(self):
        self.throws(INST, self.KEY, A, B, "x")
        self.throws(INST, self.KEY, "a", B, "x")
        self.throws(INST, self.KEY, A, "b", "x")
        self.throws(type_error("integer", "a"), self.KEY, "a", "b", "x")
        self.throws(type_error("integer", "b"), self.KEY, 1, "b", "x")
        self.throws(type_error("integer", ("f", A)), self.KEY, 3, 1, ("f", A))


class Length(Asking):
    KEY = ("length", 2)

    def test_lists(self):
        self.told([[(A, 0)]], self.KEY, "[]", A)
        self.told([[(B, 2)]], self.KEY, list_of([A, A]), B)
        self.told([[(7, 2)]], self.KEY, list_of(["a", "b"]), 7)
        self.told([[(A, 250)]], self.KEY, list_of(["a"] * 250), A)

    def test_partial_lists(self):
        self.told([[(A, "[]")]], self.KEY, A, 0)
        self.told([[(A, list_of([B, C]))]], self.KEY, A, 2)
        self.told([[(B, list_of([C]))]], self.KEY, list_of([A], B), 2)
        self.told([[(A, list_of([B]))]], self.KEY, list_of([A], A), 2)
        self.told([[(A, "[]")]], self.KEY, list_of(["a", "b"], A), 2)
        self.fails(self.KEY, list_of(["a", "b"], A), 1)
        self.fails(self.KEY, list_of(["a"], A), 0)

    def test_the_longest_list(self):
        word, pairs, more = builtin_row(None, self.KEY, (A, 1000), 0)
        self.assertEqual((word, more, len(pairs), pairs[0][0]), ("row", None, 1, A))
        items = []
        rest = pairs[0][1]
        while rest != "[]":
            items.append(rest[1])
            rest = rest[2]
        self.assertEqual(items, [(k,) for k in range(1, 1001)])

    def test_errors_in_their_order(self):
        for wrong in ("x", 5, ("f", 1), list_of([1], "x"), (".", 1), ("-", 1, "[]")):
            self.throws(type_error("list", wrong), self.KEY, wrong, "x")
            self.throws(type_error("list", wrong), self.KEY, wrong, A)
        self.throws(type_error("integer", "x"), self.KEY, A, "x")
        self.throws(type_error("integer", "x"), self.KEY, "[]", "x")
        self.throws(domain_error("not_less_than_zero", -1), self.KEY, A, -1)
        self.throws(domain_error("not_less_than_zero", -1), self.KEY, "[]", -1)
        self.throws(INST, self.KEY, A, B)
        self.throws(INST, self.KEY, A, A)
        self.throws(INST, self.KEY, list_of([1], A), B)
        self.throws(resource_error("list"), self.KEY, A, 1001)
        self.throws(resource_error("list"), self.KEY, list_of([1], A), GREAT)
        self.told([[(1001, 1)]], self.KEY, list_of(["a"]), 1001)


class Sorting(Asking):
    ALL = ("msort", "sort", "keysort")

    def test_small(self):
        given = list_of(["b", 2, ("f", 1), "a", 2, "b", (0,), ("f", 1)])
        self.told([[(B, list_of([A, 2, 2, "a", "b", "b", ("f", 1), ("f", 1)]))]], ("msort", 2), given, B)
        self.told([[(B, list_of([A, 2, "a", "b", ("f", 1)]))]], ("sort", 2), given, B)
        for name in self.ALL:
            self.told([[(A, "[]")]], (name, 2), "[]", A)
            self.told([[("x", "[]")]], (name, 2), "[]", "x")

    def test_variables_by_first_occurrence(self):
        given = list_of([C, A, B, C])
        self.told([[(D, list_of([A, A, B, C]))]], ("msort", 2), given, (7,))
        self.told([[(D, list_of([A, B, C]))]], ("sort", 2), given, (7,))
        self.told([[(C, list_of([("f", A), ("f", B)]))]], ("sort", 2), list_of([("f", (9,)), ("f", (4,)), ("f", (9,))]), (7,))

    def test_keysort(self):
        pairs = [("-", 2, "x"), ("-", 1, "z"), ("-", 2, "a"), ("-", 1, "b"), ("-", "k", 0), ("-", -3, (4,))]
        wanted = [("-", -3, (0,)), ("-", 1, "z"), ("-", 1, "b"), ("-", 2, "x"), ("-", 2, "a"), ("-", "k", 0)]
        self.told([[(B, list_of(wanted))]], ("keysort", 2), list_of(pairs), (5,))

    def test_errors_in_their_order(self):
        for name in self.ALL:
            self.throws(INST, (name, 2), A, B)
            self.throws(INST, (name, 2), list_of(["x"], A), B)
            for wrong in ("x", 5, ("f", 1), list_of(["a"], "x"), list_of(["a"], 5)):
                self.throws(type_error("list", wrong), (name, 2), wrong, A)
        key = ("keysort", 2)
        self.throws(INST, key, list_of([("-", 1, 2), A, "x"]), B)
        for wrong in ("x", 5, ("-", 1), ("+", 1, 2), ("-", 1, 2, 3), "-"):
            self.throws(type_error("pair", wrong), key, list_of([("-", 1, 2), wrong, A]), B)

    def test_by_chance(self):
        rng = chance(21)
        for _ in range(200):
            items = [some_term(rng, 2, (0, 1, 2)) for _ in range(rng.randint(0, 8))]
            items = list(slow_renumbered(("", "", *items))[2:])
            rising = sorted(items, key=slow_key)
            once = [one for at, one in enumerate(rising) if at == 0 or one != rising[at - 1]]
            fresh = (50,)
            out = slow_renumbered(("", *items, fresh))[-1] if items else (0,)
            self.told([[(out, list_of(rising))]], ("msort", 2), list_of(items), fresh)
            self.told([[(out, list_of(once))]], ("sort", 2), list_of(items), fresh)


def slow_key(term):
    """A key for the order of terms, from [1.3]."""
    if isinstance(term, tuple) and len(term) == 1:
        return (0, term[0])
    if isinstance(term, int):
        return (1, term)
    if isinstance(term, str):
        return (2, term)
    return (3, len(term), term[0]) + tuple(slow_key(inner) for inner in term[1:])


if __name__ == "__main__":
    unittest.main()
