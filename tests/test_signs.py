"""[2.1], [2.2]: the tokens of a text."""

import unittest

from hornmill.errors import NoText
from hornmill.signs import tokens
from tests.support import PERCENT, Unlike

SYMBOLS = "+-*/\\^<>=~:.?@#&$"
SMALL = "abcdefghijklmnopqrstuvwxyz"
SIGNS = [chr(number) for number in range(32, 127) if number != 37]


def values(text):
    return [token[:2] for token in tokens(text)]


class Kinds(unittest.TestCase):
    def one(self, text, kind, value):
        with self.subTest(text):
            self.assertEqual(tokens(text), [(kind, value, 0, False)])

    def test_the_example(self):
        self.assertEqual(tokens("f(- 1)"), [
            ("name", "f", 0, False), ("mark", "(", 1, False), ("name", "-", 2, False), ("integer", 1, 4, True),
            ("mark", ")", 5, False)])

    def test_names_of_letters(self):
        for sign in SMALL:
            self.one(sign, "name", sign)
        for text in ("abc", "aBC", "a1", "a_", "a_1B", "z" * 40, "a" + "_" * 39, "is", "a0"):
            self.one(text, "name", text)

    def test_names_of_symbols(self):
        for sign in SYMBOLS:
            if sign != ".":
                self.one(sign, "name", sign)
            for other in SYMBOLS:
                self.one(sign + other, "name", sign + other)
        self.one(SYMBOLS, "name", SYMBOLS)
        self.one("-" * 40, "name", "-" * 40)

    def test_names_by_themselves(self):
        self.one("!", "name", "!")
        self.one(";", "name", ";")
        self.assertEqual(values("!!"), [("name", "!"), ("name", "!")])
        self.assertEqual(values(";;-"), [("name", ";"), ("name", ";"), ("name", "-")])
        self.assertEqual(values("-!=;"), [("name", "-"), ("name", "!"), ("name", "="), ("name", ";")])

    def test_quoted_names(self):
        for text, value in (("''", ""), ("'a'", "a"), ("' '", " "), ("'A b'", "A b"), ("''''", "'"), ("'a''b'", "a'b"),
                            ("'\\\\'", "\\"), ("'\\\\\\\\'", "\\\\"), ("'''\\\\'''", "'\\'"), ("'\"`'", "\"`"),
                            ("'()[]{},|'", "()[]{},|"), ("'.'", "."), ("'-'", "-"), ("'[]'", "[]"), ("'0''a'", "0'a")):
            self.one(text, "quoted", value)
        for sign in SIGNS:
            if sign not in "'\\":
                self.one(f"'{sign}'", "quoted", sign)

    def test_variables(self):
        for sign in SMALL.upper() + "_":
            self.one(sign, "variable", sign)
        for text in ("Abc", "_a", "__", "A1_b", "_1", "_A", "Z" * 41, "_" * 500):
            self.one(text, "variable", text)

    def test_integers(self):
        for text, value in (("0", 0), ("7", 7), ("007", 7), ("10", 10), ("1234567890", 1234567890), ("00", 0)):
            self.one(text, "integer", value)

    def test_long_integers(self):
        for many in (59, 60, 61, 119, 120, 121, 299, 300, 301, 1000):
            self.one("9" * many, "integer", 10 ** many - 1)
            self.one("1" + "0" * many, "integer", 10 ** many)
            self.one("0" * many + "12", "integer", 12)
        value = 1
        for _ in range(5000):
            value = value * 10 + 3
        self.one("1" + "3" * 5000, "integer", value)

    def test_numbers_of_signs(self):
        for sign in SIGNS:
            if sign not in "'\\":
                self.one("0'" + sign, "integer", ord(sign))
        self.one("0'''", "integer", 39)
        self.one("0'\\\\", "integer", 92)

    def test_numbers_of_signs_and_what_follows(self):
        self.assertEqual(values("0'ab"), [("integer", 97), ("name", "b")])
        self.assertEqual(values("0'12"), [("integer", 49), ("integer", 2)])
        self.assertEqual(tokens("0'  1"), [("integer", 32, 0, False), ("integer", 1, 4, True)])
        self.assertEqual(tokens("0' 1"), [("integer", 32, 0, False), ("integer", 1, 3, False)])
        self.assertEqual(values("0'a'b'"), [("integer", 97), ("quoted", "b")])
        self.assertEqual(values("0'''a"), [("integer", 39), ("name", "a")])
        self.assertEqual(values("0'\\\\a"), [("integer", 92), ("name", "a")])
        self.assertEqual(values("0'."), [("integer", 46)])
        self.assertEqual(values("0'.."), [("integer", 46), ("end", ".")])

    def test_only_a_zero_by_itself_begins_the_number_of_a_sign(self):
        self.assertEqual(values("1'a'"), [("integer", 1), ("quoted", "a")])
        self.assertEqual(values("10'a'"), [("integer", 10), ("quoted", "a")])
        self.assertEqual(values("00'a'"), [("integer", 0), ("quoted", "a")])
        self.assertEqual(values("a0'a'"), [("name", "a0"), ("quoted", "a")])
        self.assertEqual(values("0 'a'"), [("integer", 0), ("quoted", "a")])

    def test_marks(self):
        for sign in "()[]{},|":
            self.one(sign, "mark", sign)
            self.assertEqual(values(sign * 3), [("mark", sign)] * 3)
        self.assertEqual(values("([{|,}])"), [("mark", sign) for sign in "([{|,}])"])

    def test_the_end(self):
        self.one(".", "end", ".")
        self.assertEqual(tokens("a."), [("name", "a", 0, False), ("end", ".", 1, False)])
        self.assertEqual(tokens("a ."), [("name", "a", 0, False), ("end", ".", 2, True)])
        self.assertEqual(values("a. b."), [("name", "a"), ("end", "."), ("name", "b"), ("end", ".")])
        self.assertEqual(values("a.\nb"), [("name", "a"), ("end", "."), ("name", "b")])
        self.assertEqual(values(". ."), [("end", "."), ("end", ".")])

    def test_a_point_that_is_no_end(self):
        self.assertEqual(values("a.b"), [("name", "a"), ("name", "."), ("name", "b")])
        self.assertEqual(values(".(a)"), [("name", "."), ("mark", "("), ("name", "a"), ("mark", ")")])
        self.assertEqual(values("a.)"), [("name", "a"), ("name", "."), ("mark", ")")])
        self.assertEqual(values(".'a'"), [("name", "."), ("quoted", "a")])
        self.assertEqual(values("1.5"), [("integer", 1), ("name", "."), ("integer", 5)])
        self.assertEqual(values("=.. "), [("name", "=..")])
        self.assertEqual(values("a=. "), [("name", "a"), ("name", "=.")])
        self.assertEqual(values(".. "), [("name", "..")])
        self.assertEqual(values(".;"), [("name", "."), ("name", ";")])


class Rows(unittest.TestCase):
    def test_of_nothing(self):
        for text in ("", " ", "\n", " \n \n"):
            self.assertEqual(tokens(text), [])

    def test_signs_of_one_kind_end_those_of_another(self):
        for letter in SMALL + SMALL.upper() + "_0123456789":
            self.assertEqual(tokens("a" + letter), [("name", "a" + letter, 0, False)])
            self.assertEqual(tokens("A" + letter), [("variable", "A" + letter, 0, False)])
            for sign in SYMBOLS + "!;":
                self.assertEqual([token[1] for token in tokens("a" + sign + letter)][:2], ["a", sign])
                self.assertEqual([token[2] for token in tokens("a" + letter + sign + letter)], [0, 2, 3])
                self.assertEqual([token[1] for token in tokens("12" + sign + letter)][:2], [12, sign])

    def test_the_longest_token_is_taken(self):
        self.assertEqual(values("a-->b"), [("name", "a"), ("name", "-->"), ("name", "b")])
        self.assertEqual(values("aB1c2"), [("name", "aB1c2")])
        self.assertEqual(values("1a"), [("integer", 1), ("name", "a")])
        self.assertEqual(values("12A"), [("integer", 12), ("variable", "A")])
        self.assertEqual(values("X=Y"), [("variable", "X"), ("name", "="), ("variable", "Y")])
        self.assertEqual(values("a,b|c"), [("name", "a"), ("mark", ","), ("name", "b"), ("mark", "|"), ("name", "c")])
        self.assertEqual(values("-1"), [("name", "-"), ("integer", 1)])
        self.assertEqual(values("a'b'c"), [("name", "a"), ("quoted", "b"), ("name", "c")])
        self.assertEqual(values("'a''b''c'"), [("quoted", "a'b'c")])
        self.assertEqual(values("'a' 'b'"), [("quoted", "a"), ("quoted", "b")])
        self.assertEqual(values("f()"), [("name", "f"), ("mark", "("), ("mark", ")")])

    def test_places_and_gaps(self):
        self.assertEqual(tokens("  a\n(B ,'c'  1\n"), [
            ("name", "a", 2, True), ("mark", "(", 4, True), ("variable", "B", 5, False), ("mark", ",", 7, True),
            ("quoted", "c", 8, False), ("integer", 1, 13, True)])
        self.assertEqual(tokens("\na"), [("name", "a", 1, True)])
        self.assertEqual(tokens("''''a\\\\"), [("quoted", "'", 0, False), ("name", "a", 4, False), ("name", "\\\\", 5, False)])

    def test_tokens_with_layout_and_without(self):
        row = ["f", "(", "X", ",", "'a b'", "|", "12", ")", "[", "]", "{", "}", "_1", "!", "(", "0'c", ")", ";"]
        for blank in (" ", "\n", "  ", ""):
            found = tokens(blank.join(row))
            self.assertEqual([token[0] for token in found], [
                "name", "mark", "variable", "mark", "quoted", "mark", "integer", "mark", "mark", "mark", "mark", "mark",
                "variable", "name", "mark", "integer", "mark", "name"])
            self.assertEqual([token[3] for token in found], [False] + [blank != ""] * (len(row) - 1))
            starts = [sum(len(word) + len(blank) for word in row[:at]) for at in range(len(row))]
            self.assertEqual([token[2] for token in found], starts)

    def test_a_long_text(self):
        self.assertEqual(len(tokens("f(X), " * 20000)), 100000)
        self.assertEqual(len(tokens("(" * 50000)), 50000)

    def test_the_list_is_new(self):
        tokens("a").append("x")
        self.assertEqual(tokens("a"), [("name", "a", 0, False)])


class Wrong(unittest.TestCase):
    def check(self, text, why):
        with self.subTest(repr(text)):
            with self.assertRaises(NoText) as caught:
                tokens(text)
            self.assertEqual(caught.exception.why, why)
            self.assertIs(type(caught.exception.why), int)

    def test_what_is_no_string(self):
        for wrong in (None, True, 1, 1.5, b"a", bytearray(b"a"), ["a"], ("a",), {}, set(), object(), str, Unlike(), NoText(1)):
            self.check(wrong, -1)

    def test_signs_that_begin_no_token(self):
        for sign in (PERCENT, "\"", "`", "\t", "\r", "\x00", "\x1f", "\x7f", "\x80", "\xa0", "\xe9", "\u20ac", "\u0661", "\ud800"):
            self.check(sign, 0)
            self.check("a" + sign, 1)
            self.check("f(X, 'b')" + sign + "'", 9)
            self.check(" \n" + sign + sign, 2)
            self.check("a1" + sign, 2)
            self.check("12" + sign, 2)
            self.check("X_" + sign, 2)
            self.check("=." + sign, 2)
            self.check("." + sign, 1)

    def test_quoted_names_without_an_end(self):
        for text in ("'", "'a", "'a''", "'''", "'\\\\", "'a\\\\''", "'a b c"):
            self.check(text, 0)
            self.check("f( " + text, 3)

    def test_quoted_names_with_a_wrong_sign(self):
        for sign in ("\n", PERCENT, "\t", "\x7f", "\xe9", "\u20ac", "\r", "\\", "\\n", "\\'", "\\\n", "\ud800"):
            self.check(f"'{sign}'", 0)
            self.check(f"'a{sign}b'", 0)
            self.check(f"'a''{sign}", 0)
            self.check(f"g 'a{sign}b' '", 2)
        self.check("'a\\'", 0)
        self.check("'\\\\\\'", 0)

    def test_numbers_of_no_sign(self):
        for text in ("0'", "0'\n", "0'\t", "0'" + PERCENT, "0'\x7f", "0'\xe9", "0'\\", "0'\\n", "0'\\'", "0''", "0''a", "0'' '",
                     "0'\\ \\", "0'\n'", "0'\ud800"):
            self.check(text, 0)
            self.check("[1," + text, 3)
        self.check("a 0'", 2)
        self.check("0''''", 4)

    def test_names_of_more_than_forty_signs(self):
        for text in ("a" * 41, "a" + "B" * 40, "-" * 41, "." * 41, "'" + "a" * 41 + "'", "'" + "''" * 41 + "'",
                     "'" + "\\\\" * 41 + "'"):
            self.check(text, 0)
            self.check("b " + text + " \"", 2)
        for text in ("a" * 40, "a" + "B" * 39, "-" * 40, "." * 40, "'" + "a" * 40 + "'", "'" + "''" * 40 + "'",
                     "'" + "\\\\" * 40 + "'"):
            with self.subTest(text):
                self.assertEqual(len(tokens(text)[0][1]), 40)

    def test_the_first_wrong_place_is_told(self):
        self.check("a \" 'b", 2)
        self.check("a 'b \"", 2)
        self.check("0' '\n", 3)
        self.check("a" * 41 + "\"", 0)
        self.check("ab\"" + "a" * 41, 2)


if __name__ == "__main__":
    unittest.main()
