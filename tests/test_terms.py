"""[0.2], [0.3], [1.1]: what a term is, and what its parts tell."""

import unittest

from hornmill.terms import depth_of, is_term, renumbered, size_of, variables_of
from tests.support import PERCENT, chance, list_of, odd_terms, slow_renumbered, slow_variables, some_term, tower

SIGNS = [chr(number) for number in range(32, 127) if number != 37]


def right_terms():
    """Terms of all kinds, at the edges of what they may be."""
    return [
        (0,), (1,), (7,), (2 ** 31,), (2 ** 64,), (10 ** 50,), (10 ** 400,),
        0, 1, -1, 2 ** 64, -2 ** 64, 10 ** 299, 10 ** 300 - 1, -(10 ** 300 - 1),
        "", " ", "a", "~", "~" * 40, "a" * 40, " " * 40, "[]", "{}", ".", ",", "'", "\\", "\"", "A b", "0", "$",
        ("f", "a"), ("", ""), (" ", "~"), ("~" * 40, 1), ("f", (0,)), ("f", 0), ("f", -1), ("f", ("g", ("h", (3,)))),
        ("f", "a", "b"), ("f",) + ("a",) * 8, ("f",) + ((2,),) * 8, ("f",) + (0,) * 8, ("f", ("f",) + ("a",) * 8),
        (".", "a", "[]"), ("[]", "a"), ("{}", "a"), (",", "a", "b"), ("f", 10 ** 300 - 1), ("f", (10 ** 400,)),
        list_of(range(290)), list_of([(k,) for k in range(290)], (290,)), list_of(["a"] * 290, "b"),
        tower(300), tower(300, (5,)), tower(330, -1),
    ] + SIGNS


class IsTerm(unittest.TestCase):
    def test_terms(self):
        for term in right_terms():
            with self.subTest(str(term)[:60]):
                self.assertIs(is_term(term), True)

    def test_each_sign_of_an_atom(self):
        self.assertEqual(len(SIGNS), 94)
        self.assertIs(is_term("".join(SIGNS[:40])), True)
        for number in list(range(0, 32)) + [37] + list(range(127, 300)) + [0x20ac, 0xd800, 0x1f600]:
            for atom in (chr(number), "a" + chr(number), chr(number) + "a"):
                with self.subTest(number):
                    self.assertIs(is_term(atom), False)
                    self.assertIs(is_term((atom, "a")), False)
                    self.assertIs(is_term(("f", atom)), False)

    def test_lengths_of_atoms(self):
        for many, answer in ((0, True), (39, True), (40, True), (41, False), (42, False), (4000, False)):
            with self.subTest(many):
                self.assertIs(is_term("a" * many), answer)
                self.assertIs(is_term(("a" * many, 1)), answer)
                self.assertIs(is_term(("f", 1, "a" * many)), answer)

    def test_digits_of_integers(self):
        for sign in (1, -1):
            for number, answer in ((10 ** 299, True), (10 ** 300 - 1, True), (10 ** 300, False), (10 ** 301, False)):
                with self.subTest(sign=sign, answer=answer):
                    self.assertIs(is_term(sign * number), answer)
                    self.assertIs(is_term(("f", sign * number)), answer)

    def test_numbers_of_variables(self):
        for number, answer in ((-10 ** 30, False), (-1, False), (0, True), (1, True), (10 ** 300, True)):
            with self.subTest(str(number)[:5]):
                self.assertIs(is_term((number,)), answer)
                self.assertIs(is_term(("f", "a", (number,))), answer)

    def test_bools_are_no_integers_anywhere(self):
        for wrong in (True, False):
            for thing in (wrong, (wrong,), ("f", wrong), ("f", (wrong,)), ("f", "a", ("g", wrong)), (wrong, "a"),
                          list_of([1, 2, wrong]), list_of([], wrong), list_of([("f", (wrong,))])):
                with self.subTest(str(thing)):
                    self.assertIs(is_term(thing), False)

    def test_numbers_of_arguments(self):
        for many in range(0, 12):
            for arg in ("a", 1, (2,), ("g", "a")):
                with self.subTest(many):
                    self.assertIs(is_term(("f",) + (arg,) * many), 1 <= many <= 8)
                    self.assertIs(is_term(("g", ("f",) + (arg,) * many)), 1 <= many <= 8)

    def test_a_wrong_argument_at_any_place(self):
        for many in range(1, 9):
            for at in range(many):
                args = ["a"] * many
                args[at] = ["a"]
                with self.subTest(many=many, at=at):
                    self.assertIs(is_term(("f", *args)), False)

    def test_what_is_no_term(self):
        for thing in odd_terms():
            with self.subTest(repr(type(thing))):
                self.assertIs(is_term(thing), False)
        self.assertIs(is_term(PERCENT), False)

    def test_a_wrong_part_far_within(self):
        self.assertIs(is_term(tower(300, True)), False)
        self.assertIs(is_term(list_of(["a"] * 289 + [None])), False)
        self.assertIs(is_term(list_of(["a"] * 289, ["a"])), False)

    def test_a_list_that_holds_itself_is_no_term(self):
        thing = []
        thing.append(("f", thing))
        self.assertIs(is_term(thing), False)
        self.assertIs(is_term(("f", thing)), False)


class Measures(unittest.TestCase):
    def test_the_example(self):
        t = ("f", (7,), ("g", (3,), (7,)), "a")
        self.assertEqual(size_of(t), 6)
        self.assertEqual(depth_of(t), 3)
        self.assertEqual(variables_of(t), [7, 3])
        self.assertEqual(renumbered(t), ("f", (0,), ("g", (1,), (0,)), "a"))

    def test_terms_without_arguments(self):
        for term, numbers, same in (((7,), [7], (0,)), (5, [], 5), (-5, [], -5), ("a", [], "a"), ("", [], "")):
            with self.subTest(str(term)):
                self.assertEqual(size_of(term), 1)
                self.assertEqual(depth_of(term), 1)
                self.assertEqual(variables_of(term), numbers)
                self.assertEqual(renumbered(term), same)

    def test_eight_arguments(self):
        term = ("f", (9,), 1, "a", (9,), ("g", (10 ** 60,)), "[]", (0,), (9,))
        self.assertEqual(size_of(term), 10)
        self.assertEqual(depth_of(term), 3)
        self.assertEqual(variables_of(term), [9, 10 ** 60, 0])
        self.assertEqual(renumbered(term), ("f", (0,), 1, "a", (0,), ("g", (1,)), "[]", (2,), (0,)))

    def test_the_greatest_depth_counts_wherever_it_is(self):
        deep = ("g", ("g", "a"))
        for at in range(4):
            args = ["a", ("g", "a"), (1,), 4]
            args[at] = deep
            self.assertEqual(depth_of(("f", *args)), 4)

    def test_each_part_counts_as_often_as_it_stands(self):
        part = ("f", (1,), (1,))
        self.assertEqual(size_of(("g", part, part, part)), 10)
        self.assertEqual(depth_of(("g", part, part, part)), 3)

    def test_long_lists(self):
        term = list_of([(600 - k,) for k in range(290)], "[]")
        self.assertEqual(size_of(term), 581)
        self.assertEqual(depth_of(term), 291)
        self.assertEqual(variables_of(term), list(range(600, 310, -1)))
        self.assertEqual(renumbered(term), list_of([(k,) for k in range(290)]))

    def test_great_depth(self):
        term = tower(300, (4,))
        self.assertEqual(size_of(term), 300)
        self.assertEqual(depth_of(term), 300)
        self.assertEqual(variables_of(term), [4])
        self.assertEqual(renumbered(term), tower(300, (0,)))

    def test_depth_beyond_the_calls_of_python(self):
        term = tower(5000, (4,))
        self.assertIs(is_term(term), True)
        self.assertEqual((size_of(term), depth_of(term), variables_of(term)), (5000, 5000, [4]))
        self.assertEqual(variables_of(renumbered(term)), [0])

    def test_numbers_that_are_in_use_already(self):
        self.assertEqual(renumbered(("f", (1,), (0,), (2,), (1,))), ("f", (0,), (1,), (2,), (0,)))
        self.assertEqual(renumbered(("f", ("g", (2,)), (0,), (1,))), ("f", ("g", (0,)), (1,), (2,)))

    def test_terms_by_chance(self):
        rng = chance(11)
        for _ in range(300):
            term = some_term(rng, rng.randint(1, 5), [0, 3, 1, 10 ** 30], most=8)
            self.assertEqual(variables_of(term), slow_variables(term))
            self.assertEqual(renumbered(term), slow_renumbered(term))
            self.assertEqual(size_of(term), slow_size(term))
            self.assertEqual(depth_of(term), slow_depth(term))

    def test_returned_lists_are_new(self):
        term = ("f", (7,), (3,))
        first = variables_of(term)
        first.append(99)
        self.assertEqual(variables_of(term), [7, 3])


def slow_size(term):
    return 1 + sum(slow_size(inner) for inner in term[1:]) if isinstance(term, tuple) else 1


def slow_depth(term):
    return 1 + max([slow_depth(inner) for inner in term[1:]], default=0) if isinstance(term, tuple) else 1


if __name__ == "__main__":
    unittest.main()
