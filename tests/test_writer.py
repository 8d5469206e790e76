"""[2.8], [2.9], [2.11]: texts of terms."""

import unittest

from hornmill.errors import BadTerm, NoTable, NoText
from hornmill.operators import standard
from hornmill.reader import read_term
from hornmill.signs import tokens
from hornmill.terms import renumbered
from hornmill.writer import brackets, written
from tests.support import chance, list_of, odd_terms, slow_renumbered, some_table, some_term, tower

ATOMS = ("a", "-", "+", "=", ":-", "e", "[]", "{}", ".", ",", "|", "X", "b c", "it's", "\\", "")
NAMES = ("-", "-", "+", "=", "e", "e", ":-", "\\", ",", ",", "{}", ".", "[]", "f")


class Writes(unittest.TestCase):
    def check(self, term, text, many=0, table=None):
        table = standard() if table is None else table
        with self.subTest(text):
            self.assertEqual(written(term, table), text)
            self.assertEqual(brackets(term, table), many)
            self.assertEqual(read_term(text, table)[0], renumbered(term))
            for less in without_a_pair(text):
                self.assertNotEqual(read_or_none(less, table), renumbered(term))


class Plain(Writes):
    def test_the_example(self):
        self.check(("-", ("-", 1), ("-", 2, ("=", "+", (7,)))), "- 1 - (2 - ('+' = A))", 2)

    def test_atoms_that_need_no_quotes(self):
        for atom in ("a", "aB_1", "a" * 40, "[]", "{}", "!", ";", "+", "=..", "..", "-->", "#&$", "\\", "-" * 40, "is", ":-"):
            self.check(atom, atom)
            self.check(("f", atom), f"f({atom})")
            self.check((atom, 1, 2, 3), f"{atom}(1, 2, 3)")

    def test_atoms_that_need_quotes(self):
        for atom, text in (("", "''"), (" ", "' '"), ("A", "'A'"), ("_a", "'_a'"), ("a b", "'a b'"), ("it's", "'it''s'"), ("'", "''''"),
                           ("a\\b", "'a\\\\b'"), (".", "'.'"), (",", "','"), ("|", "'|'"), ("(", "'('"), ("[", "'['"), ("1", "'1'"),
                           ("-1", "'-1'"), ("a-", "'a-'"), ("-a", "'-a'"), ("!!", "'!!'"), (";;", "';;'"), ("\"", "'\"'"), ("`", "'`'"),
                           ("[a]", "'[a]'"), ("[ ]", "'[ ]'"), ("0'a", "'0''a'"), ("\\'", "'\\\\'''"), ("'" * 40, "'" * 82), ("a ", "'a '")):
            self.check(atom, text)
            self.check(("f", atom), f"f({text})")
            self.check((atom, 1, 2, 3), f"{text}(1, 2, 3)")
            self.check(("=", atom, atom), f"{text} = {text}")

    def test_integers(self):
        for number in (0, 7, -7, 10 ** 299, 10 ** 300 - 1, 1 - 10 ** 300):
            self.check(number, str(number))
            self.check(("f", number), f"f({number})")

    def test_variables(self):
        self.check((7,), "A")
        self.check(("f", (9,), (3,), (9,)), "f(A, B, A)")
        letters = "ABCDEFGHIJKLMNOPQRSTUVWXYZ"
        names = list(letters) + [letter + "1" for letter in letters] + [letter + "2" for letter in letters] + ["A3", "B3"]
        self.check(list_of([(1000 - k,) for k in range(80)]), "[" + ", ".join(names) + "]")
        many = [letter + (str(number) if number else "") for number in range(12) for letter in letters][:287]
        self.check(list_of([(k,) for k in range(287)], (286,)), "[" + ", ".join(many) + "|A11]")

    def test_compounds(self):
        self.check(("f", "a"), "f(a)")
        self.check(("f", ("g", "a", 1), (3,)), "f(g(a, 1), A)")
        self.check(("f",) + ("a",) * 8, "f(a, a, a, a, a, a, a, a)")
        self.check(("A b", "a"), "'A b'(a)")
        self.check(("[]", "a"), "[](a)")
        self.check(("{}", "a", "b"), "{}(a, b)")
        self.check((".", "a"), "'.'(a)")
        self.check((".", "a", "b", "c"), "'.'(a, b, c)")
        self.check((",", "a"), "','(a)")
        self.check((",", "a", "b", "c"), "','(a, b, c)")
        self.check(("-", "a", "b", "c"), "-(a, b, c)")
        self.check(("=", "a"), "=(a)")
        self.check(("\\+", "a", "b"), "\\+(a, b)")

    def test_lists(self):
        self.check((".", "a", "[]"), "[a]")
        self.check(list_of(["a", 1, (5,)]), "[a, 1, A]")
        self.check((".", "a", "b"), "[a|b]")
        self.check((".", "a", (".", "b", (1,))), "[a, b|A]")
        self.check((".", (".", "a", "[]"), (".", "[]", "[]")), "[[a], []]")
        self.check((".", "[]", "{}"), "[[]|{}]")
        self.check((".", "a", ("f", "[]")), "[a|f([])]")
        self.check((".", "a", (".", "b")), "[a|'.'(b)]")
        self.check(list_of(["-", "+", "="], "-"), "[-, +, =|-]")
        self.check(list_of(range(290)), "[" + ", ".join(str(k) for k in range(290)) + "]")

    def test_braces(self):
        self.check(("{}", "a"), "{a}")
        self.check(("{}", (",", "a", "b")), "{a, b}")
        self.check(("{}", (":-", "a", "b")), "{a :- b}")
        self.check(("{}", ("{}", "{}")), "{{{}}}")
        self.check(("{}", "-"), "{-}")

    def test_great_depth(self):
        self.check(tower(300), "f(" * 299 + "a" + ")" * 299)
        term = "a"
        for _ in range(299):
            term = ("-", "a", term)
        self.assertEqual(brackets(term, standard()), 298)
        self.assertEqual(read_term(written(term, standard()), standard())[0], term)
        term = "a"
        for _ in range(5000):
            term = ("{}", term)
        self.assertEqual(written(term, []), "{" * 5000 + "a" + "}" * 5000)


class Operators(Writes):
    def test_prefix(self):
        self.check(("-", "a"), "- a")
        self.check(("-", 1), "- 1")
        self.check(("-", -1), "- -1")
        self.check(("-", ("-", 1)), "- - 1")
        self.check(("\\+", ("\\+", "a")), "\\+ \\+ a")
        self.check((":-", "a"), ":- a")
        self.check(("-", ("f", "a")), "- f(a)")
        self.check(("-", list_of(["a"])), "- [a]")
        self.check(("-", ("{}", "a")), "- {a}")
        self.check(("-", ("+", "a", "b")), "- (a + b)", 1)
        self.check(("-", ("^", "a", "b")), "- a ^ b")
        self.check((":-", (":-", "a")), ":- (:- a)", 1)
        self.check((":-", (",", "a", "b")), ":- a, b")
        self.check(("-", ("=", "a")), "- =(a)")
        self.check(("-", ("-", "a", "b", "c")), "- -(a, b, c)")

    def test_infix(self):
        self.check(("=", "a", (0,)), "a = A")
        self.check((",", "a", "b"), "a, b")
        self.check((",", "a", (",", "b", "c")), "a, b, c")
        self.check((",", (",", "a", "b"), "c"), "(a, b), c", 1)
        self.check(("is", (0,), ("+", 1, 2)), "A is 1 + 2")
        self.check((":-", "a", (";", ("->", "b", "c"), "d")), "a :- b -> c ; d")
        self.check(("-", "a", 1), "a - 1")
        self.check(("-", "a", -1), "a - -1")
        self.check(("-", -1, "a"), "-1 - a")
        self.check(("-", ("-", 1), "a"), "- 1 - a")
        self.check(("^", -1, 2), "-1 ^ 2")
        self.check(("^", ("-", 1), 2), "(- 1) ^ 2", 1)
        self.check(("-", ("^", 1, 2)), "- 1 ^ 2")

    def test_bounds_of_infix_operators(self):
        self.check(("-", ("-", "a", "b"), "c"), "a - b - c")
        self.check(("-", "a", ("-", "b", "c")), "a - (b - c)", 1)
        self.check(("^", ("^", "a", "b"), "c"), "(a ^ b) ^ c", 1)
        self.check(("^", "a", ("^", "b", "c")), "a ^ b ^ c")
        self.check(("=", ("=", "a", "b"), "c"), "(a = b) = c", 1)
        self.check(("=", "a", ("=", "b", "c")), "a = (b = c)", 1)
        self.check(("*", ("+", "a", "b"), ("+", "c", "d")), "(a + b) * (c + d)", 2)
        self.check(("+", ("*", "a", "b"), ("*", "c", "d")), "a * b + c * d")
        self.check(("=", "a", ("\\+", "b")), "a = (\\+ b)", 1)
        self.check((",", "a", ("\\+", "b")), "a, \\+ b")

    def test_each_side_of_each_kind_at_its_bound(self):
        for kind, left, right in (("xfx", 499, 499), ("xfy", 499, 500), ("yfx", 500, 499)):
            for priority in (498, 499, 500, 501):
                table = [(500, kind, "o"), (priority, "xfx", "i")]
                inner = ("i", "a", "b")
                more = 0 if priority <= left else 1
                self.check(("o", inner, "c"), "(a i b) o c" if more else "a i b o c", more, table)
                more = 0 if priority <= right else 1
                self.check(("o", "c", inner), "c o (a i b)" if more else "c o a i b", more, table)
        for kind, bound in (("fx", 499), ("fy", 500)):
            for priority in (498, 499, 500, 501):
                more = 0 if priority <= bound else 1
                self.check(("o", ("i", "a", "b")), "o (a i b)" if more else "o a i b", more, [(500, kind, "o"), (priority, "xfx", "i")])
        for kind, bound in (("xf", 499), ("yf", 500)):
            for priority in (498, 499, 500, 501):
                more = 0 if priority <= bound else 1
                self.check(("o", ("i", "a", "b")), "(a i b) o" if more else "a i b o", more, [(500, kind, "o"), (priority, "xfx", "i")])

    def test_a_left_operand_of_the_same_priority(self):
        for own, more in (("xfx", 0), ("yfx", 0), ("xfy", 1)):
            table = [(500, own, "i"), (500, "yfx", "o"), (500, "yf", "p")]
            self.check(("o", ("i", "a", "b"), "c"), "(a i b) o c" if more else "a i b o c", more, table)
            self.check(("p", ("i", "a", "b")), "(a i b) p" if more else "a i b p", more, table)
        for own, more in (("fx", 0), ("fy", 1)):
            table = [(500, own, "i"), (500, "yfx", "o"), (500, "yf", "p")]
            self.check(("o", ("i", "a"), "c"), "(i a) o c" if more else "i a o c", more, table)
            self.check(("p", ("i", "a")), "(i a) p" if more else "i a p", more, table)
        for own in ("xf", "yf"):
            table = [(500, own, "i"), (500, "yfx", "o"), (500, "yf", "p")]
            self.check(("o", ("i", "a"), "c"), "a i o c", 0, table)
            self.check(("p", ("i", "a")), "a i p", 0, table)

    def test_a_right_operand_of_the_same_priority(self):
        table = [(500, "xfy", "o"), (500, "fy", "p"), (500, "xfy", "i"), (500, "fy", "j")]
        self.check(("o", "a", ("i", "b", "c")), "a o b i c", 0, table)
        self.check(("o", "a", ("j", "b")), "a o j b", 0, table)
        self.check(("p", ("i", "b", "c")), "p b i c", 0, table)
        self.check(("p", ("j", "b")), "p j b", 0, table)

    def test_postfix(self):
        table = [(300, "xf", "s"), (300, "yf", "t"), (200, "fy", "-"), (400, "xfx", "=")]
        self.check(("s", "a"), "a s", 0, table)
        self.check(("t", ("t", "a")), "a t t", 0, table)
        self.check(("s", ("s", "a")), "(a s) s", 1, table)
        self.check(("t", ("s", "a")), "a s t", 0, table)
        self.check(("s", ("-", "a")), "- a s", 0, table)
        self.check(("-", ("s", "a")), "- (a s)", 1, table)
        self.check(("s", ("=", "a", "b")), "(a = b) s", 1, table)
        self.check(("=", ("s", "a"), ("t", "b")), "a s = b t", 0, table)
        self.check(("s", "a", "b"), "s(a, b)", 0, table)

    def test_prefix_goes_ahead_of_postfix(self):
        table = [(300, "xf", "s"), (200, "fy", "s")]
        self.check(("s", "a"), "s a", 0, table)
        self.check(("s", ("s", "a")), "s s a", 0, table)

    def test_a_name_with_both_sorts(self):
        table = [(300, "fy", "o"), (600, "xfx", "o")]
        self.check(("o", ("o", "a"), ("o", "b")), "o a o o b", 0, table)
        self.check(("o", ("o", "a", "b")), "o (a o b)", 1, table)

    def test_arguments_and_items(self):
        self.check(("f", (",", "a", "b")), "f((a, b))", 1)
        self.check(("f", (":-", "a", "b"), ("-", 1)), "f((a :- b), - 1)", 1)
        self.check(("f", ("\\+", "a"), ("=", "a", "b")), "f(\\+ a, a = b)")
        self.check(list_of([(",", "a", "b"), ("->", "a", "b")], (";", "a", "b")), "[(a, b), (a -> b)|(a ; b)]", 3)
        self.check(("{}", (",", "a", (":-", "b"))), "{a, (:- b)}", 1)
        for priority, more in ((998, 0), (999, 0), (1000, 1), (1200, 1)):
            table = [(priority, "xfx", "i")]
            inner = "(a i b)" if more else "a i b"
            self.check(("f", ("i", "a", "b")), f"f({inner})", more, table)
            self.check(list_of([("i", "a", "b")]), f"[{inner}]", more, table)
            self.check(list_of(["c"], ("i", "a", "b")), f"[c|{inner}]", more, table)
            self.check(("{}", ("i", "a", "b")), "{a i b}", 0, table)
            self.check(("i", "a", "b"), "a i b", 0, table)

    def test_operators_as_operands(self):
        self.check(("-", "-"), "- '-'")
        self.check(("-", "="), "- '='")
        self.check(("=", "is", ":-"), "'is' = ':-'")
        self.check((",", "-", ";"), "'-', ';'")
        self.check(("-", "[]", "{}"), "[] - {}")
        self.check(("-", "a", "!"), "a - !")
        self.check(("=", ("f", "-"), ("-", "-")), "f(-) = - '-'")
        self.check(("f", "-", (".", "=", "-")), "f(-, [=|-])")
        self.check(("=", ("-", "a", "b", "c"), "b"), "-(a, b, c) = b")
        table = [(700, "xfx", "="), (300, "xf", "s"), (300, "fx", "p")]
        self.check(("=", "s", "p"), "'s' = 'p'", 0, table)
        self.check(("s", "s"), "'s' s", 0, table)
        self.check(("p", "="), "p '='", 0, table)
        self.check(("=", "-", "a"), "- = a", 0, table)

    def test_without_operators(self):
        self.check(("-", 1), "-(1)", 0, [])
        self.check(("-", ("-", "a", "b")), "-(-(a, b))", 0, [])
        self.check(("=", "-", "="), "=(-, =)", 0, [])
        self.check((",", "-", "b"), "-, b", 0, [])
        self.check(("f", (",", "a", "b")), "f((a, b))", 1, [])

    def test_a_table_may_be_a_tuple_in_any_order(self):
        for table in (tuple(standard()), standard()[::-1]):
            self.check(("-", "a", ("*", "b", "c")), "a - b * c", 0, table)


class Wrong(unittest.TestCase):
    def test_what_is_no_term(self):
        for call in (written, brackets):
            for wrong in odd_terms():
                for table in (standard(), None, [None]):
                    with self.assertRaises(BadTerm) as caught:
                        call(wrong, table)
                    self.assertIs(caught.exception.term, wrong)

    def test_what_is_no_table(self):
        for call in (written, brackets):
            for table, why in ((None, -1), ("", -1), ([None], 0), ([(1, "fx", "a"), (2, "fy", "a")], 1)):
                with self.assertRaises(NoTable) as caught:
                    call("a", table)
                self.assertEqual(caught.exception.why, why)

    def test_arguments_stay(self):
        table = [(700, "xfx", "="), (200, "fy", "-")]
        written(("=", ("-", "a"), (3,)), table)
        brackets(("=", ("-", "a"), (3,)), table)
        self.assertEqual(table, [(700, "xfx", "="), (200, "fy", "-")])


class Facts(unittest.TestCase):
    def test_by_chance(self):
        rng = chance(81)
        seen = [0, 0]
        for _ in range(8000):
            table = some_table(rng, ["a", "-", "+", "=", "e", ":-", "\\"]) if rng.randrange(4) else rng.choice([standard(), []])
            inner = [some_term(rng, rng.randint(1, 4), [3, 1, 60, 7], ATOMS, NAMES, 2) for _ in range(rng.choice([1, 2, 2, 2, 3]))]
            term = (rng.choice(NAMES), *inner)
            text = written(term, table)
            self.assertEqual(read_term(text, table)[0], slow_renumbered(term), (text, table))
            less = without_a_pair(text)
            self.assertEqual(len(less), brackets(term, table), (text, table))
            for other in less:
                self.assertNotEqual(read_or_none(other, table), slow_renumbered(term), (text, other, table))
            seen[len(less) > 0] += 1
        self.assertGreater(min(seen), 1000)


def without_a_pair(text):
    """The text without each pair of ( and ) that does not hold a compound's arguments."""
    row, waiting, found = tokens(text), [], []
    for at, (kind, value, start, gap) in enumerate(row):
        if (kind, value) == ("mark", "("):
            before = row[at - 1] if at else ("mark", "(", 0, False)
            holds = not gap and (before[0] in ("name", "quoted") or before[:2] in (("mark", "]"), ("mark", "}")))
            waiting.append((start, holds))
        elif (kind, value) == ("mark", ")"):
            begin, holds = waiting.pop()
            if not holds:
                found.append(text[:begin] + text[begin + 1:start] + text[start + 1:])
    return found


def read_or_none(text, table):
    try:
        return read_term(text, table)[0]
    except NoText:
        return None


if __name__ == "__main__":
    unittest.main()
