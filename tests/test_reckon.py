"""[6.1] to [6.7]: arithmetic."""

import math
import time
import unittest

from hornmill.errors import BadTerm
from hornmill.reckon import reckoned
from tests.asking import INST, Asking, resource_error, type_error
from tests.support import chance, odd_terms

GREAT = 10 ** 300 - 1
LONG = ("error", resource_error("integer"))
ZERO = ("error", ("evaluation_error", "zero_divisor"))
SOME = [0, 1, -1, 2, -2, 7, -7, 10, 64, -64, 10 ** 20, -10 ** 20 - 3, GREAT, -GREAT]


def bounded(value):
    return ("value", value) if abs(value) <= GREAT else LONG


def towards_zero(x, y):
    return abs(x) // abs(y) * (1 if (x < 0) == (y < 0) else -1)


def unknown(name, arity):
    return ("error", type_error("evaluable", ("/", name, arity)))


class OneArgument(unittest.TestCase):
    def test_values(self):
        calls = {"+": lambda x: x, "-": lambda x: -x, "abs": abs, "sign": lambda x: (x > 0) - (x < 0), "\\": lambda x: ~x}
        for name, call in calls.items():
            for x in SOME:
                with self.subTest(name, x=x):
                    self.assertEqual(reckoned((name, x)), bounded(call(x)))

    def test_msb(self):
        for x in (1, 2, 3, 4, 255, 256, 2 ** 900, 2 ** 900 - 1):
            self.assertEqual(reckoned(("msb", x)), ("value", len(bin(x)) - 3))
        for x in (0, -1, -8, -GREAT):
            self.assertEqual(reckoned(("msb", x)), ("error", type_error("not_less_than_one", x)))


class TwoArguments(unittest.TestCase):
    def test_values(self):
        calls = {
            "+": lambda x, y: x + y, "-": lambda x, y: x - y, "*": lambda x, y: x * y, "min": min, "max": max, "gcd": math.gcd,
            "/\\": lambda x, y: x & y, "\\/": lambda x, y: x | y, "xor": lambda x, y: x ^ y}
        for name, call in calls.items():
            for x in SOME:
                for y in SOME:
                    with self.subTest(name, x=x, y=y):
                        self.assertEqual(reckoned((name, x, y)), bounded(call(x, y)))

    def test_division(self):
        for x in SOME:
            for name in ("//", "div", "mod", "rem"):
                self.assertEqual(reckoned((name, x, 0)), ZERO)
            for y in SOME:
                if y != 0:
                    quotient = towards_zero(x, y)
                    self.assertEqual(reckoned(("//", x, y)), ("value", quotient))
                    self.assertEqual(reckoned(("div", x, y)), ("value", x // y))
                    self.assertEqual(reckoned(("mod", x, y)), ("value", x - y * (x // y)))
                    self.assertEqual(reckoned(("rem", x, y)), ("value", x - y * quotient))

    def test_division_by_hand(self):
        table = {(7, 2): (3, 3, 1, 1), (-7, 2): (-3, -4, 1, -1), (7, -2): (-3, -4, -1, 1), (-7, -2): (3, 3, -1, -1)}
        for (x, y), values in table.items():
            for name, value in zip(("//", "div", "mod", "rem"), values):
                self.assertEqual(reckoned((name, x, y)), ("value", value))

    def test_shifts(self):
        for x in SOME:
            for y in (0, 1, 5, 64, 900, 996, 997, 1000, 1001, 5000):
                self.assertEqual(reckoned(("<<", x, y)), bounded(x << y))
                self.assertEqual(reckoned((">>", x, y)), ("value", x >> y))
            for y in (-1, -GREAT):
                for name in ("<<", ">>"):
                    self.assertEqual(reckoned((name, x, y)), ("error", ("domain_error", "not_less_than_zero", y)))
            self.assertEqual(reckoned((">>", x, GREAT)), ("value", -1 if x < 0 else 0))
            self.assertEqual(reckoned(("<<", x, GREAT)), LONG if x else ("value", 0))

    def test_powers(self):
        for name in ("**", "^"):
            for x in (2, -2, 3, 10, -10, 10 ** 20, GREAT):
                for y in (0, 1, 2, 3, 10, 299, 300, 301, 996, 997, 1000, 1001):
                    if abs(x) < 100 or y < 20:
                        self.assertEqual(reckoned((name, x, y)), bounded(x ** y))
                for y in (-1, -2, -GREAT):
                    self.assertEqual(reckoned((name, x, y)), ("error", type_error("float", x)))
            for y in (0, 1, 2, 7, GREAT, GREAT - 1):
                self.assertEqual(reckoned((name, 1, y)), ("value", 1))
                self.assertEqual(reckoned((name, -1, y)), ("value", -1 if y % 2 else 1))
                self.assertEqual(reckoned((name, 0, y)), ("value", 0 if y else 1))
            for y in (-1, -2, -7, -GREAT, -GREAT - 1 + 2):
                self.assertEqual(reckoned((name, 1, y)), ("value", 1))
                self.assertEqual(reckoned((name, -1, y)), ("value", -1 if y % 2 else 1))
                self.assertEqual(reckoned((name, 0, y)), ZERO)


class Digits(unittest.TestCase):
    def test_three_hundred_digits(self):
        self.assertEqual(reckoned(GREAT), ("value", GREAT))
        self.assertEqual(reckoned(("+", GREAT, 0)), ("value", GREAT))
        self.assertEqual(reckoned(("-", ("-", GREAT), 0)), ("value", -GREAT))
        self.assertEqual(reckoned(("+", GREAT, 1)), LONG)
        self.assertEqual(reckoned(("-", -GREAT, 1)), LONG)
        self.assertEqual(reckoned(("\\", GREAT)), LONG)
        self.assertEqual(reckoned(("\\", -GREAT)), ("value", GREAT - 1))
        self.assertEqual(reckoned(("*", 10 ** 150, 10 ** 149)), ("value", 10 ** 299))
        self.assertEqual(reckoned(("*", 10 ** 150, 10 ** 150)), LONG)
        self.assertEqual(reckoned(("-", ("*", 10 ** 150, 10 ** 150), 1)), LONG)
        self.assertEqual(reckoned(("^", 10, 299)), ("value", 10 ** 299))
        self.assertEqual(reckoned(("^", 10, 300)), LONG)

    def test_great_powers_are_told_at_once(self):
        begin = time.perf_counter()
        power = 7 ** 300
        for term in (("**", 7, power), ("**", 7, ("**", 7, 300)), ("^", -power, power), ("<<", 1, power), ("*", 0, ("^", 2, power))):
            self.assertEqual(reckoned(term), LONG)
        self.assertLess(time.perf_counter() - begin, 1)


class Errors(unittest.TestCase):
    def test_leaves(self):
        self.assertEqual(reckoned((0,)), ("error", INST))
        self.assertEqual(reckoned(5), ("value", 5))
        for atom in ("a", "", "+", "[]", "pi", "max"):
            self.assertEqual(reckoned(atom), unknown(atom, 0))

    def test_unknown_compounds_come_ahead_of_their_arguments(self):
        for term in (("f", (0,)), ("abs", (0,), 1), ("+", 1, 2, (0,)), ("mod", (0,)), ("min", "a"), ("msb", 1, (0,)), ("//", 0),
                     (".", 1, "[]"), ("**", (0,)), ("sign", 1, 2)):
            self.assertEqual(reckoned(term), unknown(term[0], len(term) - 1))

    def test_the_first_error_on_the_way(self):
        self.assertEqual(reckoned(("+", (0,), "a")), ("error", INST))
        self.assertEqual(reckoned(("+", "a", (0,))), unknown("a", 0))
        self.assertEqual(reckoned(("+", ("f", (0,)), (0,))), unknown("f", 1))
        self.assertEqual(reckoned(("+", ("//", 1, 0), "a")), ZERO)
        self.assertEqual(reckoned(("+", "a", ("//", 1, 0))), unknown("a", 0))
        self.assertEqual(reckoned(("//", "a", 0)), unknown("a", 0))
        self.assertEqual(reckoned(("//", (0,), 0)), ("error", INST))
        self.assertEqual(reckoned(("<<", ("msb", 0), -1)), ("error", type_error("not_less_than_one", 0)))
        self.assertEqual(reckoned(("+", ("*", 1, ("-", "x")), ("f", 1))), unknown("x", 0))
        self.assertEqual(reckoned(("f", ("//", 1, 0))), unknown("f", 1))
        self.assertEqual(reckoned(("+", ("*", GREAT, 2), (0,))), LONG)

    def test_what_is_no_term(self):
        for wrong in odd_terms():
            with self.assertRaises(BadTerm) as caught:
                reckoned(wrong)
            self.assertIs(caught.exception.term, wrong)

    def test_deep_terms(self):
        term = 0
        for _ in range(299):
            term = ("+", term, 1)
        self.assertEqual(reckoned(term), ("value", 299))
        term = 0
        for _ in range(299):
            term = ("-", 1, term)
        self.assertEqual(reckoned(term), ("value", 1))

    def test_by_chance(self):
        rng = chance(12)
        for _ in range(3000):
            term = self.some(rng, 4)
            self.assertEqual(reckoned(term), slow(term))

    def some(self, rng, depth):
        kind = rng.randrange(12)
        if depth == 0 or kind < 4:
            return rng.choice([0, 1, -1, 2, 3, -5, 12, 10 ** 200, -10 ** 290])
        if kind == 4:
            return rng.choice([(0,), "a", "b"]) if rng.randrange(3) == 0 else 4
        if kind == 5:
            return (rng.choice(["abs", "sign", "-", "+", "\\", "msb"] + ["f"] * (rng.randrange(4) == 0)), self.some(rng, depth - 1))
        name = rng.choice("+ - * // div mod rem min max gcd /\\ \\/ xor".split())
        return (name, self.some(rng, depth - 1), self.some(rng, depth - 1))


def slow(term):
    """reckoned by recursion, for some of the operations."""
    ones = {"+": lambda x: x, "-": lambda x: -x, "abs": abs, "sign": lambda x: (x > 0) - (x < 0), "\\": lambda x: ~x,
            "msb": lambda x: x.bit_length() - 1}
    twos = {"+": lambda x, y: x + y, "-": lambda x, y: x - y, "*": lambda x, y: x * y, "min": min, "max": max, "gcd": math.gcd,
            "/\\": lambda x, y: x & y, "\\/": lambda x, y: x | y, "xor": lambda x, y: x ^ y, "//": towards_zero,
            "div": lambda x, y: x // y, "mod": lambda x, y: x % y, "rem": lambda x, y: x - y * towards_zero(x, y)}
    if isinstance(term, int):
        return ("value", term)
    if isinstance(term, tuple) and len(term) == 1:
        return ("error", INST)
    if isinstance(term, str):
        return unknown(term, 0)
    table = ones if len(term) == 2 else twos
    if term[0] not in table:
        return unknown(term[0], len(term) - 1)
    values = []
    for inner in term[1:]:
        result = slow(inner)
        if result[0] == "error":
            return result
        values.append(result[1])
    if term[0] in ("//", "div", "mod", "rem") and values[1] == 0:
        return ZERO
    if term[0] == "msb" and values[0] < 1:
        return ("error", type_error("not_less_than_one", values[0]))
    return bounded(table[term[0]](*values))


class Builtins(Asking):
    def test_is(self):
        key = ("is", 2)
        self.told([[((0,), 3)]], key, (0,), ("+", 1, 2))
        self.told([[("x", 5)]], key, "x", 5)
        self.told([[(5, 5)]], key, 5, ("-", 6, 1))
        self.told([[(6, 5)]], key, 6, ("-", 6, 1))
        self.throws(INST, key, (0,), (1,))
        self.throws(INST, key, (0,), (0,))
        self.throws(INST, key, 5, ("+", 1, (0,)))
        self.throws(type_error("evaluable", ("/", "a", 0)), key, (0,), "a")
        self.throws(type_error("evaluable", ("/", "f", 1)), key, (0,), ("f", (1,)))
        self.throws(("evaluation_error", "zero_divisor"), key, (0,), ("mod", 1, 0))
        self.throws(resource_error("integer"), key, (0,), ("+", GREAT, GREAT))

    def test_comparisons(self):
        names = {"=:=": (0,), "=\\=": (-1, 1), "<": (-1,), ">": (1,), "=<": (-1, 0), ">=": (0, 1)}
        for name, signs in names.items():
            for one, other, sign in ((1, 2, -1), (2, 2, 0), (3, 2, 1), (("+", 1, 1), 2, 0), (2, ("*", 2, 3), -1), (GREAT, -GREAT, 1)):
                (self.passes if sign in signs else self.fails)((name, 2), one, other)
            self.throws(type_error("evaluable", ("/", "a", 0)), (name, 2), "a", "b")
            self.throws(type_error("evaluable", ("/", "b", 0)), (name, 2), 1, "b")
            self.throws(INST, (name, 2), (0,), "b")
            self.throws(INST, (name, 2), 1, (0,))
            self.throws(("evaluation_error", "zero_divisor"), (name, 2), ("//", 1, 0), (0,))


if __name__ == "__main__":
    unittest.main()
