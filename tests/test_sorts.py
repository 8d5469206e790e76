"""[5.1]: the sorts of keys, and what rows are."""

import unittest

from hornmill.builtins import builtin_row, sort_of
from tests.support import Unlike, odd_values

CONTROL = """,/2 ;/2 ->/2 *->/2 \\+/1 once/1 ignore/1 forall/2 true/0 !/0 call/1 call/2 call/3 call/4 call/5 call/6 call/7 call/8
catch/3 throw/1 findall/3 findall/4"""
ROWS = "arg/3 atom_concat/3 sub_atom/5 between/3 clause/2 retract/1"
ONE = """fail/0 ==/2 \\==/2 @</2 @>/2 @=</2 @>=/2 \\=/2 subsumes_term/2 var/1 nonvar/1 atom/1 integer/1 atomic/1 compound/1 callable/1
is_list/1 ground/1 =/2 compare/3 copy_term/2 term_variables/2 functor/3 =../2 atom_length/2 atom_chars/2 atom_codes/2 char_code/2
number_codes/2 length/2 msort/2 sort/2 keysort/2 is/2 =:=/2 =\\=/2 </2 >/2 =</2 >=/2 write/1 writeq/1 nl/0 asserta/1 assertz/1
retractall/1 abolish/1"""


def keys(text):
    return [(word[:-2], int(word[-1])) for word in text.split()]


def table():
    found = {key: "control" for key in keys(CONTROL)}
    found.update({key: "rows" for key in keys(ROWS) + [(-2, 4)]})
    found.update({key: "one" for key in keys(ONE) + [(-1, 6), (-3, 4), (-4, 3)]})
    return found


class Sorts(unittest.TestCase):
    def test_all_keys(self):
        for key, sort in table().items():
            with self.subTest(key=key):
                self.assertEqual(sort_of(key), sort)

    def test_the_same_names_with_other_arities(self):
        known = table()
        for name in {key[0] for key in known}:
            for arity in range(-1, 12):
                with self.subTest(key=(name, arity)):
                    self.assertEqual(sort_of((name, arity)), known.get((name, arity)))
        for number in range(-8, 9):
            for arity in range(10):
                self.assertEqual(sort_of((number, arity)), known.get((number, arity)))

    def test_other_predicates(self):
        for key in [("call", 0), ("call", 9), ("call", 10), ("bagof", 3), ("setof", 3), ("aggregate_all", 3), ("findall", 2),
                    ("findall", 5), ("halt", 0), ("false", 0), ("not", 1), ("p", 1), ("", 0), ("-", 2), ("+", 2), ("append", 3),
                    (0, 2), ("is", -2)]:
            with self.subTest(key=key):
                self.assertIsNone(sort_of(key))

    def test_what_is_no_key(self):
        for wrong in odd_values() + ["is", "is/2", 2, ["is", 2], ("is",), ("is", 2, 2), ("is", "2"), ("is", [2]), ("is", None), (["is"], 2),
                                     ({}, 2), (("is",), 2), ("/", "is", 2), (None, 2), (b"is", 2), ("is", Unlike()), (Unlike(), 2)]:
            with self.subTest(kind=type(wrong).__name__):
                self.assertIsNone(sort_of(wrong))

    def test_bools_and_floats_are_no_integers(self):
        for wrong in [("var", True), ("fail", False), ("nl", False), ("is", 2.0), (-2.0, 4), (-2, 4.0), ("call", True)]:
            with self.subTest(key=wrong):
                self.assertIsNone(sort_of(wrong))


class Rows(unittest.TestCase):
    def test_examples(self):
        self.assertEqual(
            [builtin_row(None, ("arg", 3), ((0,), ("f", "a", "b"), (1,)), 0), builtin_row(None, ("functor", 3), ((0,), "f", 2), 0)],
            [("row", [((0,), 1), ((1,), "a")], 1), ("row", [((0,), ("f", (1,), (2,)))], None)])

    def test_new_variables_are_numbered_on(self):
        self.assertEqual(builtin_row(None, ("copy_term", 2), [("f", (0,), (1,), (0,)), (2,)], 0),
                         ("row", [((2,), ("f", (3,), (4,), (3,)))], None))
        self.assertEqual(builtin_row(None, ("length", 2), [(".", (0,), (1,)), 3], 0),
                         ("row", [((1,), (".", (2,), (".", (3,), "[]")))], None))
        self.assertEqual(builtin_row(None, ("functor", 3), [(0,), "f", 3], 0), ("row", [((0,), ("f", (1,), (2,), (3,)))], None))

    def test_rows_are_new_each_time(self):
        args = [("f", "a"), (0,)]
        one = builtin_row(None, ("copy_term", 2), args, 0)
        one[1].append("spoilt")
        self.assertEqual(builtin_row(None, ("copy_term", 2), args, 0), ("row", [((0,), ("f", "a"))], None))
        self.assertEqual(args, [("f", "a"), (0,)])
        one = builtin_row(None, ("var", 1), [(0,)], 0)
        one[1].append("spoilt")
        self.assertEqual(builtin_row(None, ("var", 1), [(0,)], 0), ("row", [], None))

    def test_a_row_is_asked_for_again(self):
        args = ((0,), ("f", "a", "b", "c"), (1,))
        self.assertEqual(builtin_row(None, ("arg", 3), args, 2), ("row", [((0,), 3), ((1,), "c")], None))
        self.assertEqual(builtin_row(None, ("arg", 3), args, 1)[1], [((0,), 2), ((1,), "b")])
        self.assertEqual(builtin_row(None, ("arg", 3), args, 1)[1], [((0,), 2), ((1,), "b")])
        self.assertEqual(builtin_row(None, ("between", 3), (3, 9, (0,)), 4), ("row", [((0,), 7)], 5))


if __name__ == "__main__":
    unittest.main()
