"""[2.5], [2.6]: terms from texts."""

import unittest

from hornmill.errors import NoTable, NoText
from hornmill.operators import standard
from hornmill.reader import read_term, read_terms
from hornmill.signs import tokens
from tests.support import PERCENT, Unlike, chance, list_of, slow_read, some_table, tower

VOCABULARY = ["a", "-", "+", "=", "e", ":-", "\\", "1", "0", "X", "_", "Y", "(", ")", "[", "]", "{", "}", ",", "|", "'-'",
              "'x y'", ".", ".", " ", "f(", "g(", "-1", "[]", "{}", "\n"]


class Reads(unittest.TestCase):
    def reads(self, text, term, names=None, table=None):
        table = standard() if table is None else table
        with self.subTest(text):
            self.assertEqual(read_term(text, table), (term, [] if names is None else names))

    def wrong(self, text, why, table=None):
        table = standard() if table is None else table
        with self.subTest(text):
            with self.assertRaises(NoText) as caught:
                read_term(text, table)
            self.assertEqual(caught.exception.why, why)
            self.assertIs(type(caught.exception.why), int)


class FirstTerms(Reads):
    def test_the_examples(self):
        self.reads("X = f(Y, [- 1, -1|X])", ("=", (0,), ("f", (1,), (".", ("-", 1), (".", -1, (0,))))), ["X", "Y"])
        self.wrong("a = b = c", 6)

    def test_plain_ones(self):
        for table in (standard(), [], ()):
            self.reads("a", "a", table=table)
            self.reads("'A b'", "A b", table=table)
            self.reads("''", "", table=table)
            self.reads("0", 0, table=table)
            self.reads("0'a", 97, table=table)
            self.reads("0' ", 32, table=table)
            self.reads("9" * 300, 10 ** 300 - 1, table=table)
            self.reads("-" + "9" * 300, 1 - 10 ** 300, table=table)
            self.reads("X", (0,), ["X"], table=table)
            self.reads("!", "!", table=table)
            self.reads(";", ";", table=table)
            self.reads("=", "=", table=table)
            self.reads("'.'", ".", table=table)
            self.reads("','", ",", table=table)

    def test_an_end_may_stand_behind(self):
        for text in ("a.", "a .", "a.\n", " a\n. ", "a . \n "):
            self.reads(text, "a")
        self.reads("X = 1.", ("=", (0,), 1), ["X"])
        self.wrong("a. b", 3)
        self.wrong("a. .", 3)
        self.wrong("a.. ", 1)
        self.wrong("a.\n.", 3)

    def test_brackets(self):
        self.reads("(a)", "a")
        self.reads("( ( a ) )", "a")
        self.reads("(a:-b)", (":-", "a", "b"))
        self.reads("[]", "[]")
        self.reads("[ ]", "[]")
        self.reads("{}", "{}")
        self.reads("{ \n }", "{}")
        self.reads("{a}", ("{}", "a"))
        self.reads("{a, b}", ("{}", (",", "a", "b")))
        self.reads("{a :- b}", ("{}", (":-", "a", "b")))
        self.reads("{[]}", ("{}", "[]"))
        self.reads("[{}]", list_of(["{}"]))
        self.reads("({})", "{}")

    def test_lists(self):
        self.reads("[a]", (".", "a", "[]"))
        self.reads("[a,b , c]", list_of(["a", "b", "c"]))
        self.reads("[a|b]", (".", "a", "b"))
        self.reads("[a, 1|X]", (".", "a", (".", 1, (0,))), ["X"])
        self.reads("[[]|[]]", (".", "[]", "[]"))
        self.reads("[a|[b|[c]]]", list_of(["a", "b", "c"]))
        self.reads("[(a, b)|(c :- d)]", (".", (",", "a", "b"), (":-", "c", "d")))
        self.reads("[a = b, - c|d = e]", (".", ("=", "a", "b"), (".", ("-", "c"), ("=", "d", "e"))))
        self.reads("[" + ", ".join(["a"] * 290) + "]", list_of(["a"] * 290))
        for text, why in (("[|a]", 1), ("[a|]", 3), ("[a|b|c]", 4), ("[a|b,c]", 4), ("[,]", 1), ("[a,]", 3), ("[a,|b]", 3),
                          ("[a b]", 3), ("[a :- b]", 3), ("[a)", 2), ("[a}", 2), ("[a|b)", 4), ("[a.]", 2), ("[a. ]", 2)):
            self.wrong(text, why)

    def test_compounds(self):
        self.reads("f(a)", ("f", "a"))
        self.reads("f( a )", ("f", "a"))
        self.reads("f(a,X,1,X)", ("f", "a", (0,), 1, (0,)), ["X"])
        self.reads("'A b'(a)", ("A b", "a"))
        self.reads("''(a)", ("", "a"))
        self.reads("[](a)", ("[]", "a"))
        self.reads("[ ](a)", ("[]", "a"))
        self.reads("{}(a, b)", ("{}", "a", "b"))
        self.reads("{}(a)", ("{}", "a"))
        self.reads("-(a)", ("-", "a"))
        self.reads("-(1)", ("-", 1))
        self.reads("- (1)", ("-", 1))
        self.reads("-(a, b)", ("-", "a", "b"))
        self.reads("=(a)", ("=", "a"))
        self.reads("!(a)", ("!", "a"))
        self.reads(";(a)", (";", "a"))
        self.reads("','(a, b)", (",", "a", "b"))
        self.reads("'.'(a, [])", (".", "a", "[]"))
        self.reads(".(a, [])", (".", "a", "[]"))
        self.reads("f(g(h(a)), [b])", ("f", ("g", ("h", "a")), list_of(["b"])))
        self.reads("f(=, -, \\+, [], {})", ("f", "=", "-", "\\+", "[]", "{}"))
        self.reads("f((a, b))", ("f", (",", "a", "b")))
        self.reads("f((a :- b), c)", ("f", (":-", "a", "b"), "c"))

    def test_numbers_of_arguments(self):
        for many in range(1, 9):
            self.reads("f(" + ",".join(["a"] * many) + ")", ("f",) + ("a",) * many)
            self.reads("[](" + ",".join(["a"] * many) + ")", ("[]",) + ("a",) * many)
        self.wrong("f(a,a,a,a,a,a,a,a,a)", 17)
        self.wrong("f(a,a,a,a,a,a,a,a,a,a)", 17)
        self.wrong("f(a,a,a,a,a,a,a,a,)", 17)
        self.wrong("f(a,a,a,a,a,a,a,a,", 17)
        self.wrong("{}(a,a,a,a,a,a,a,a,a)", 18)
        self.wrong("f()", 2)
        self.wrong("[]()", 3)
        self.wrong("{}( )", 4)

    def test_a_gap_ahead_of_the_bracket(self):
        self.wrong("f (a)", 2)
        self.wrong("f\n(a)", 2)
        self.wrong("[] (a)", 3)
        self.wrong("{} (a)", 3)
        self.wrong("'f' (a)", 4)
        self.reads("- (a, b)", ("-", (",", "a", "b")))
        self.wrong("X(a)", 1)
        self.wrong("1(a)", 1)
        self.wrong("(a)(b)", 3)
        self.wrong("f(a)(b)", 4)
        self.wrong("[a](b)", 3)
        self.wrong("{a}(b)", 3)

    def test_variables(self):
        self.reads("f(X, Y, X, _, Z, _, _)", ("f", (0,), (1,), (0,), (2,), (3,), (4,), (5,)), ["X", "Y", "_", "Z", "_", "_"])
        self.reads("_", (0,), ["_"])
        self.reads("_ = _", ("=", (0,), (1,)), ["_", "_"])
        self.reads("__ = __", ("=", (0,), (0,)), ["__"])
        self.reads("f(_A, A, _A)", ("f", (0,), (1,), (0,)), ["_A", "A"])
        self.reads("[B|A] = A - B", ("=", (".", (0,), (1,)), ("-", (1,), (0,))), ["B", "A"])
        self.reads("- B + {A} + 'C'", ("+", ("+", ("-", (0,)), ("{}", (1,))), "C"), ["B", "A"])
        long = "V" * 60
        self.reads(f"{long} = {long}x", ("=", (0,), (1,)), [long, long + "x"])

    def test_negative_integers(self):
        for table in (standard(), []):
            self.reads("-1", -1, table=table)
            self.reads("-0", 0, table=table)
            self.reads("-0'a", -97, table=table)
            self.reads("f(-1, -2)", ("f", -1, -2), table=table)
            self.reads("[-1|-2]", (".", -1, -2), table=table)
        self.reads("- 1", ("-", 1))
        self.reads("-\n1", ("-", 1))
        self.reads("- -1", ("-", -1))
        self.reads("- - 1", ("-", ("-", 1)))
        self.reads("a - 1", ("-", "a", 1))
        self.reads("a -1", ("-", "a", 1))
        self.reads("a-1", ("-", "a", 1))
        self.reads("a - -1", ("-", "a", -1))
        self.reads("1-1", ("-", 1, 1))
        self.reads("-1 - -1", ("-", -1, -1))
        self.reads("-1^2", ("^", -1, 2))
        self.reads("- 1^2", ("-", ("^", 1, 2)))
        self.reads("-a", ("-", "a"))
        self.reads("+1", ("+", 1))
        self.reads("-(-1)", ("-", -1))
        self.wrong("- 1", 2, [])
        self.wrong("'-'1", 3)
        self.wrong("-a", 1, [])
        self.wrong("a -1", 2, [])


class Operators(Reads):
    def test_bounds_of_infix_operators(self):
        table = [(700, "xfx", "x"), (500, "xfy", "r"), (500, "yfx", "l"), (400, "xfx", "t"), (300, "yfx", "u")]
        self.reads("a x b", ("x", "a", "b"), table=table)
        self.wrong("a x b x c", 6, table)
        self.reads("(a x b) x c", ("x", ("x", "a", "b"), "c"), table=table)
        self.reads("a x (b x c)", ("x", "a", ("x", "b", "c")), table=table)
        self.reads("a r b r c", ("r", "a", ("r", "b", "c")), table=table)
        self.reads("(a r b) r c", ("r", ("r", "a", "b"), "c"), table=table)
        self.reads("a l b l c", ("l", ("l", "a", "b"), "c"), table=table)
        self.reads("a l (b l c)", ("l", "a", ("l", "b", "c")), table=table)
        self.wrong("a l b r c", 6, table)
        self.reads("a r b l c", ("r", "a", ("l", "b", "c")), table=table)
        self.reads("a t b l c t d", ("l", ("t", "a", "b"), ("t", "c", "d")), table=table)
        self.reads("a x b l c", ("x", "a", ("l", "b", "c")), table=table)
        self.reads("a l b x c", ("x", ("l", "a", "b"), "c"), table=table)
        self.reads("a u b t c u d", ("t", ("u", "a", "b"), ("u", "c", "d")), table=table)
        self.wrong("a t b t c", 6, table)

    def test_bounds_of_prefix_operators(self):
        table = [(500, "fx", "x"), (500, "fy", "y"), (500, "yfx", "l"), (499, "xfx", "t"), (200, "fy", "z")]
        self.reads("x a", ("x", "a"), table=table)
        self.reads("y a", ("y", "a"), table=table)
        self.reads("y y a", ("y", ("y", "a")), table=table)
        self.reads("y x a", ("y", ("x", "a")), table=table)
        self.wrong("x x a", 4, table)
        self.wrong("x y a", 4, table)
        self.reads("x (x a)", ("x", ("x", "a")), table=table)
        self.reads("y a l b", ("y", ("l", "a", "b")), table=table)
        self.reads("x a l b", ("l", ("x", "a"), "b"), table=table)
        self.reads("x a t b", ("x", ("t", "a", "b")), table=table)
        self.reads("z a t b", ("t", ("z", "a"), "b"), table=table)
        self.wrong("a t y b", 6, table)
        self.wrong("a l x b", 6, table)
        self.reads("a l z b", ("l", "a", ("z", "b")), table=table)

    def test_bounds_of_postfix_operators(self):
        table = [(500, "xf", "x"), (500, "yf", "y"), (500, "fy", "p"), (400, "fy", "q"), (500, "yfx", "l"), (500, "xfy", "r")]
        self.reads("a x", ("x", "a"), table=table)
        self.reads("a y", ("y", "a"), table=table)
        self.reads("a y y", ("y", ("y", "a")), table=table)
        self.reads("a x y", ("y", ("x", "a")), table=table)
        self.wrong("a x x", 4, table)
        self.wrong("a y x", 4, table)
        self.reads("(a x) x", ("x", ("x", "a")), table=table)
        self.reads("q a x", ("x", ("q", "a")), table=table)
        self.reads("p a x", ("p", ("x", "a")), table=table)
        self.reads("a l b y", ("y", ("l", "a", "b")), table=table)
        self.reads("a r b y", ("r", "a", ("y", "b")), table=table)
        self.reads("a y l b", ("l", ("y", "a"), "b"), table=table)
        self.wrong("a y r b", 4, table)
        self.reads("[a x|b y]", (".", ("x", "a"), ("y", "b")), table=table)

    def test_the_bound_counts_for_operators_themselves(self):
        self.wrong("f(a :- b)", 4)
        self.wrong("[a --> b]", 3)
        self.wrong("f(:- a)", 5)
        self.reads("f(:-)", ("f", ":-"))
        self.reads("f(\\+ a)", ("f", ("\\+", "a")))
        table = [(999, "xfx", "i"), (1000, "xfx", "j"), (999, "fx", "p"), (1000, "fx", "q"), (999, "xf", "s"), (1000, "xf", "t")]
        self.reads("f(a i b)", ("f", ("i", "a", "b")), table=table)
        self.wrong("f(a j b)", 4, table)
        self.reads("f(p a)", ("f", ("p", "a")), table=table)
        self.wrong("f(q a)", 4, table)
        self.reads("[a s]", list_of([("s", "a")]), table=table)
        self.wrong("[a t]", 3, table)
        self.wrong("[b|a t]", 5, table)
        self.reads("{a t}", ("{}", ("t", "a")), table=table)
        self.reads("(a j b)", ("j", "a", "b"), table=table)
        self.wrong("a = :- b", 7)
        self.wrong("a = \\+ b", 7)
        self.reads("a = \\+", ("=", "a", "\\+"))
        self.reads("\\+ a = b", ("\\+", ("=", "a", "b")))

    def test_priorities_at_their_ends(self):
        table = [(1, "xfx", "i"), (1200, "xfx", "j"), (1, "fx", "p"), (1200, "fy", "q"), (1, "yf", "s")]
        self.reads("a i b", ("i", "a", "b"), table=table)
        self.wrong("a i b i c", 6, table)
        self.reads("a i b j c", ("j", ("i", "a", "b"), "c"), table=table)
        self.wrong("p p a", 4, table)
        self.reads("q q a", ("q", ("q", "a")), table=table)
        self.reads("q a j b", ("q", ("j", "a", "b")), table=table)
        self.reads("a s s", ("s", ("s", "a")), table=table)

    def test_the_comma(self):
        self.reads("a, b", (",", "a", "b"))
        self.reads("a, b, c", (",", "a", (",", "b", "c")))
        self.reads("(a, b), c", (",", (",", "a", "b"), "c"))
        self.reads("a, b", (",", "a", "b"), table=[])
        self.reads("a :- b, c ; d", (":-", "a", (";", (",", "b", "c"), "d")))
        self.reads("f(a, (b, c))", ("f", "a", (",", "b", "c")))
        self.wrong("',' a", 4)
        self.wrong("a ',' b", 2)
        self.wrong(", a", 0)
        self.wrong("a, , b", 3)
        table = [(1000, "xfx", "i"), (1000, "yfx", "l"), (999, "yfx", "u"), (1000, "fy", "p")]
        self.reads("a, b i c", (",", "a", ("i", "b", "c")), table=table)
        self.wrong("a i b, c", 5, table)
        self.reads("a u b, c", (",", ("u", "a", "b"), "c"), table=table)
        self.reads("p a, b", ("p", (",", "a", "b")), table=table)
        self.wrong("a l b, c", 5, table)

    def test_quoted_names_are_no_operators(self):
        self.wrong("a '=' b", 2)
        self.wrong("'-' a", 4)
        self.wrong("'-'1", 3)
        self.reads("- '-'", ("-", "-"))
        self.reads("'-' - '-'", ("-", "-", "-"))
        self.reads("- '='", ("-", "="))
        self.reads("'-'(a)", ("-", "a"))

    def test_prefix_operators_as_atoms(self):
        self.reads("-", "-")
        self.reads(":-", ":-")
        self.reads("(-)", "-")
        self.reads("[-]", list_of(["-"]))
        self.reads("[-|-]", (".", "-", "-"))
        self.reads("{-}", ("{}", "-"))
        self.reads("f(-, +)", ("f", "-", "+"))
        self.reads("- = a", ("=", "-", "a"))
        self.reads("\\+ = -", ("=", "\\+", "-"))
        self.reads("-, -", (",", "-", "-"))
        self.reads("- .", "-")
        self.reads("[- | X]", (".", "-", (0,)), ["X"])
        self.reads("- * -", ("*", "-", "-"))

    def test_what_can_begin_a_term_behind_a_prefix_operator(self):
        for text, term, names in (("1", 1, []), ("X", (0,), ["X"]), ("a", "a", []), ("'='", "=", []), ("(a)", "a", []),
                                  ("[a]", list_of(["a"]), []), ("{a}", ("{}", "a"), []), ("[]", "[]", []), ("-1", -1, []),
                                  ("=(a)", ("=", "a"), []), ("-(a)", ("-", "a"), []), ("!", "!", []), ("- a", ("-", "a"), []),
                                  ("-", "-", []), ("+", "+", []), ("f(a)", ("f", "a"), [])):
            self.reads("\\ " + text, ("\\", term), names)
        self.reads("- + 1", ("-", ("+", 1)))
        self.reads("- =(a, b)", ("-", ("=", "a", "b")))
        self.reads("- = (a)", ("=", "-", "a"))
        table = [(200, "fy", "p"), (500, "yfx", "-"), (500, "xf", "s")]
        self.reads("p -1", ("p", -1), table=table)
        self.reads("p +1", ("+", "p", 1), table=table + [(500, "yfx", "+")])
        self.reads("p - 1", ("-", "p", 1), table=table)
        self.reads("p -(1)", ("p", ("-", 1)), table=table)
        self.wrong("p -", 3, table)
        self.reads("p s", ("s", "p"), table=table)
        self.reads("p s(a)", ("p", ("s", "a")), table=table)
        self.wrong("p s (a)", 4, table)

    def test_names_that_are_infix_operators_alone(self):
        self.reads("= = =", ("=", "=", "="))
        self.reads("is", "is")
        self.reads("is is is", ("is", "is", "is"))
        self.reads("f(is)", ("f", "is"))
        self.wrong("a is", 4)
        self.wrong("= a", 2)

    def test_names_with_both_sorts(self):
        table = [(300, "fy", "o"), (600, "xfx", "o")]
        self.reads("o", "o", table=table)
        self.reads("o o", ("o", "o"), table=table)
        self.reads("o o o", ("o", ("o", "o")), table=table)
        self.reads("a o b", ("o", "a", "b"), table=table)
        self.reads("o a o b", ("o", ("o", "a"), "b"), table=table)
        self.reads("a o o b", ("o", "a", ("o", "b")), table=table)
        self.reads("a o o", ("o", "a", "o"), table=table)

    def test_the_standard_table(self):
        self.reads("p(X) :- q(X), \\+ r(X) ; s -> t",
                   (":-", ("p", (0,)), (";", (",", ("q", (0,)), ("\\+", ("r", (0,)))), ("->", "s", "t"))), ["X"])
        self.reads("a --> b, {c}", ("-->", "a", (",", "b", ("{}", "c"))))
        self.reads(":- a, b", (":-", (",", "a", "b")))
        self.reads("X is 1 + 2 * 3 - 4 ** 5", ("is", (0,), ("-", ("+", 1, ("*", 2, 3)), ("**", 4, 5))), ["X"])
        self.reads("a - b - c", ("-", ("-", "a", "b"), "c"))
        self.reads("2 ^ 3 ^ 4", ("^", 2, ("^", 3, 4)))
        self.reads("a -> b ; c *-> d", (";", ("->", "a", "b"), ("*->", "c", "d")))
        self.reads("a mod b rem c", ("rem", ("mod", "a", "b"), "c"))
        self.reads("X @=< Y", ("@=<", (0,), (1,)), ["X", "Y"])
        self.reads("f(A) =.. [B|C]", ("=..", ("f", (0,)), (".", (1,), (2,))), ["A", "B", "C"])
        self.reads("a\\==b", ("\\==", "a", "b"))
        self.wrong("a ** b ** c", 7)
        self.wrong("a --> b --> c", 8)
        self.wrong(":- :- a", 6)
        self.wrong(":- :- :-", 6)
        self.reads(":- :-", (":-", ":-"))

    def test_a_table_may_be_a_tuple_in_any_order(self):
        for table in (tuple(standard()), standard()[::-1], tuple(reversed(standard()))):
            self.reads("a - b * c", ("-", "a", ("*", "b", "c")), table=table)


class Wrong(Reads):
    def test_a_text_that_ends_too_early(self):
        for text in ("", " ", "\n", "(", "[", "{", "f(", "f(a", "f(a,", "f(a, b", "[a", "[a,", "[a|", "[a|b", "{a", "(a", "((a)",
                     "a =", "a = ", "a,", "a :- b,", "- (", "f(-", "[-", "a - ", "a = (b", "[](", "{}(a", "'f'(", "f(a) "[:3]):
            self.wrong(text, len(text))
            self.wrong(text + " \n", len(text) + 2)

    def test_an_end_where_none_can_stand(self):
        for text, why in ((".", 0), (" .", 1), ("f(a.", 3), ("(a.", 2), ("[a|.", 3), ("a = .", 4), ("[.", 1), ("f(a, .", 5),
                          ("{a. }", 2), ("- (a.", 4)):
            self.wrong(text, why)

    def test_tokens_that_can_not_stand(self):
        for text, why in ((")", 0), ("]", 0), ("}", 0), (",", 0), ("|", 0), ("a)", 1), ("a]", 1), ("a}", 1), ("a|b", 1), ("a b", 2),
                          ("a 1", 2), ("1 a", 2), ("1 2", 2), ("X Y", 2), ("X 1", 2), ("a 'b'", 2), ("a [b]", 2), ("a {b}", 2),
                          ("()", 1), ("(a]", 2), ("{a)", 2), ("f(a]", 3), ("f(a|b)", 3), ("(a|b)", 2), ("{a|b}", 2), ("f(,a)", 2),
                          ("f(a,)", 4), ("f(a,,b)", 4), ("[(]", 2), ("a = )", 4), ("a = = b", 6), ("f(a) g", 5), ("{,}", 1),
                          ("{|}", 1), ("a , )", 4), ("f(a b)", 4)):
            self.wrong(text, why)

    def test_what_tokens_raises_comes_first(self):
        for text, why in ((None, -1), (1, -1), (b"a", -1), (["a"], -1), (Unlike(), -1), ("a \"", 2), (") '", 2), (PERCENT, 0), ("a b 0'", 4),
                          ("b" * 41, 0)):
            for table in (standard(), None, [None]):
                for call in (read_term, read_terms):
                    with self.assertRaises(NoText) as caught:
                        call(text, table)
                    self.assertEqual(caught.exception.why, why)

    def test_then_the_table(self):
        for text in ("", "a b", ")", "a"):
            for table, why in ((None, -1), ([(1, "fx", "a"), None], 1)):
                for call in (read_term, read_terms):
                    with self.assertRaises(NoTable) as caught:
                        call(text, table)
                    self.assertEqual(caught.exception.why, why)


class Several(unittest.TestCase):
    def test_of_none(self):
        for text in ("", " ", "\n \n"):
            self.assertEqual(read_terms(text, standard()), [])

    def test_of_some(self):
        self.assertEqual(read_terms("a.", standard()), [("a", [])])
        self.assertEqual(read_terms("p(X, Y). q(Y, _, X).\n'A' .  -1.", standard()), [
            (("p", (0,), (1,)), ["X", "Y"]), (("q", (0,), (1,), (2,)), ["Y", "_", "X"]), ("A", []), (-1, [])])
        self.assertEqual(read_terms("a :- b, c. :- d.", standard()), [((":-", "a", (",", "b", "c")), []), ((":-", "d"), [])])
        self.assertEqual(read_terms("- . - .", standard()), [("-", []), ("-", [])])
        self.assertEqual(len(read_terms("f(X). " * 3000, [])), 3000)

    def test_wrong_texts(self):
        for text, why in (("a", 1), ("a ", 2), ("a. b", 4), ("a. b ", 5), ("a. f(", 5), ("a. f(b. c.", 6), (".", 0), ("a. .", 3),
                          ("a b.", 2), ("a. b c.", 5), ("a = b = c.", 6), ("a.. b.", 1), ("a) .", 1), ("a. ) .", 3), ("a.b.", 1),
                          ("a = . b.", 4), ("a. b =", 6)):
            with self.subTest(text):
                with self.assertRaises(NoText) as caught:
                    read_terms(text, standard())
                self.assertEqual(caught.exception.why, why)

    def test_what_is_returned_is_new(self):
        table = standard()
        read_terms("p(X).", table)[0][1].append("Y")
        self.assertEqual(read_terms("p(X).", table), [(("p", (0,)), ["X"])])
        read_term("p(X)", table)[1].append("Y")
        self.assertEqual(read_term("p(X)", table), (("p", (0,)), ["X"]))
        self.assertEqual(table, standard())


class Great(unittest.TestCase):
    def test_deep_texts(self):
        for many in (300, 20000):
            self.assertEqual(read_term("(" * many + "a" + ")" * many, standard()), ("a", []))
            for text, why in (("f(" * many, 2 * many), ("[" * many, many), ("- " * many + ")", 2 * many), ("[a|" * many + ")", 3 * many)):
                with self.assertRaises(NoText) as caught:
                    read_term(text, standard())
                self.assertEqual(caught.exception.why, why)

    def test_deep_terms(self):
        self.assertEqual(read_term("f(" * 299 + "a" + ")" * 299, standard()), (tower(300), []))
        self.assertEqual(read_term("-(" * 299 + "a" + ")" * 299, [])[0][0], "-")
        term = "a"
        for _ in range(299):
            term = ("-", term)
        self.assertEqual(read_term("- " * 299 + "a", standard()), (term, []))
        term = "a"
        for _ in range(299):
            term = ("-", term, "a")
        self.assertEqual(read_term(" - ".join(["a"] * 300), standard()), (term, []))
        term = "a"
        for _ in range(299):
            term = ("^", "a", term)
        self.assertEqual(read_term("^".join(["a"] * 300), standard()), (term, []))


class ByChance(unittest.TestCase):
    def test_texts_of_random_tokens(self):
        rng = chance(61)
        seen = {"yes": 0, "wrong": 0, "short": 0}
        for _ in range(12000):
            table = some_table(rng, ["a", "-", "+", "=", "e", ":-", "\\"]) if rng.randrange(3) else standard()
            text = "".join(rng.choice(VOCABULARY) + rng.choice(["", "", " "]) for _ in range(rng.randint(0, 9)))
            try:
                tokens(text)
            except NoText:
                continue
            word, slow = slow_read(text, table)
            seen[word] += 1
            if word == "yes":
                self.assertEqual(read_term(text, table), slow, (text, table))
            else:
                with self.assertRaises(NoText) as caught:
                    read_term(text, table)
                self.assertEqual(caught.exception.why, slow, (text, table))
        self.assertGreater(min(seen.values()), 500)


if __name__ == "__main__":
    unittest.main()
