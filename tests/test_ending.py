"""[2.7]: what is missing behind a text."""

import unittest

from hornmill.errors import NoTable, NoText
from hornmill.operators import standard
from hornmill.reader import ending, read_term
from hornmill.signs import tokens
from tests.support import PERCENT, chance, slow_read, some_table

VOCABULARY = ["a", "-", "+", "=", "e", ":-", "\\", "1", "X", "_", "(", "[", "{", "(", "[", "{", ")", "]", "}", ",", "|", "'-'",
              ".", " ", "f(", "g(", "-1", "[]", "{}", "\n"]


class Ending(unittest.TestCase):
    def check(self, text, found, table=None):
        table = standard() if table is None else table
        with self.subTest(text):
            self.assertEqual(ending(text, table), found)
            read_term(text + found, table)
            read_term(text + " " + found, table)

    def refused(self, text, why, table=None):
        with self.subTest(text):
            with self.assertRaises(NoText) as caught:
                ending(text, standard() if table is None else table)
            self.assertEqual(caught.exception.why, why)

    def test_the_examples(self):
        self.check("f([a|", " a])")
        self.check("- (1", ")")

    def test_whole_texts(self):
        for text in ("a", "a.", "a. ", " a \n", "X = f(Y)", "[]", "[a]", "{}", "{a}", "-", "- 1", "-1", "f(a)", "(a)", "a, b", ":-", "'a'",
                     "a :- b.", "a = -", "f(-)"):
            self.check(text, "")

    def test_of_nothing(self):
        for text in ("", " ", "\n"):
            self.check(text, " a")

    def test_behind_an_open_bracket(self):
        self.check("(", " a)")
        self.check("[", " a]")
        self.check("{", " a}")
        self.check("f(", " a)")
        self.check("[](", " a)")
        self.check("{}(", " a)")
        self.check("'f'(", " a)")
        self.check("([{f(", " a)}])")
        self.check("{[((", " a))]}")

    def test_behind_each_token_of_some_texts(self):
        for text, table, endings in (
            ("p ( X ) :- q".replace(" ", ""), standard(), {1: "", 2: " a)", 3: ")", 4: "", 6: " a", 7: ""}),
            ("[a,b|c]", standard(), {1: " a]", 2: "]", 3: " a]", 4: "]", 5: " a]", 6: "]", 7: ""}),
            ("{f((a,b),c)}", [], {1: " a}", 2: "}", 3: " a)}", 4: " a))}", 5: "))}", 6: " a))}", 7: "))}", 8: ")}", 9: " a)}",
                                  10: ")}", 11: "}", 12: ""}),
            ("- a - - 1 * X.", standard(), {1: "", 3: "", 5: " a", 7: "", 9: "", 11: " a", 13: "", 14: ""}),
            ("[-|-]", standard(), {1: " a]", 2: "]", 3: " a]", 4: "]", 5: ""}),
            ("f(0'(,'(',[])", standard(), {1: "", 2: " a)", 5: ")", 6: " a)", 9: ")", 10: " a)", 11: " a])", 12: ")", 13: ""}),
        ):
            for stop, found in endings.items():
                self.check(text[:stop], found, table)
                self.check(text[:stop] + " ", found, table)

    def test_a_term_is_due_behind_an_infix_operator(self):
        for text in ("a =", "a = b ,", "a, ", "a :- ", "a ->", "a - ", "- - a *"):
            self.check(text, " a")
            self.check("f([(" + text, " a)])")

    def test_an_atom_may_stand_where_the_text_ends(self):
        self.check("a = \\+", "")
        self.check("(-", ")")
        self.check("[-", "]")
        self.check("[a|-", "]")
        self.check("{-", "}")
        self.check("f(-", ")")
        self.check("f(a, :-", ")")
        self.check("- -", "")

    def test_a_name_that_is_an_operator_itself(self):
        for kind in ("fx", "fy", "xfx", "xfy", "yfx", "xf", "yf"):
            for text, found in (("", " a"), ("(", " a)"), ("[b,", " a]"), ("- (", " a)"), ("b =", " a")):
                self.check(text, found, [(700, "xfx", "="), (200, "fy", "-"), (600, kind, "a")])

    def test_eight_arguments(self):
        self.check("f(a,a,a,a,a,a,a", ")")
        self.check("f(a,a,a,a,a,a,a,", " a)")
        self.check("f(a,a,a,a,a,a,a,a", ")")
        self.refused("f(a,a,a,a,a,a,a,a,", 17)

    def test_texts_that_cannot_go_on(self):
        for text, why in ((")", 0), ("a b", 2), ("f(a b", 4), ("(a]", 2), ("a = b = c", 6), ("f()", 2), ("[a|b|", 4), ("f(a.", 3), (".", 0),
                          ("a. b", 3), ("a = .", 4), ("f (", 2), ("[(a}", 3), ("f(a :-", 4), ("a)", 1), ("f(a|", 3), ("X(", 1),
                          ("- (a b", 5), ("- 1 2", 4)):
            self.refused(text, why)

    def test_wrong_tokens_and_tables(self):
        for text, why in ((None, -1), (3, -1), ("f(\"", 2), ("f('a", 2), ("(0'", 1), ("a b '", 4), (PERCENT, 0)):
            self.refused(text, why)
            self.refused(text, why, [None])
        for text in ("", "a b", "f("):
            for table, why in ((None, -1), ([None], 0)):
                with self.assertRaises(NoTable) as caught:
                    ending(text, table)
                self.assertEqual(caught.exception.why, why)

    def test_deep_texts(self):
        self.check("(" * 20000, " a" + ")" * 20000)
        self.check("[(" * 300 + "a", ")]" * 300)
        self.check("- " * 5000, "")

    def test_the_fact_by_chance(self):
        rng = chance(71)
        seen = [0, 0, 0]
        for _ in range(6000):
            table = some_table(rng, ["a", "-", "+", "=", "e", ":-", "\\"]) if rng.randrange(3) else standard()
            text = some_text(rng, 8)
            try:
                tokens(text)
            except NoText:
                continue
            word, place = slow_read(text, table)
            if word == "wrong":
                self.refused(text, place, table)
                for _ in range(4):
                    with self.assertRaises(NoText):
                        read_term(text + " " + some_text(rng, 4), table)
            else:
                found = ending(text, table)
                self.assertEqual(found == "", word == "yes")
                read_term(text + found, table)
                read_term(text + " " + found, table)
            seen[["wrong", "yes", "short"].index(word)] += 1
        self.assertGreater(min(seen), 300)


def some_text(rng, most):
    return "".join(rng.choice(VOCABULARY) + rng.choice(["", "", " "]) for _ in range(rng.randint(0, most)))


if __name__ == "__main__":
    unittest.main()
