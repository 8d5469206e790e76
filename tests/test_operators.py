"""[2.3], [2.4]: tables of operators."""

import unittest

from hornmill.errors import NoOperator, NoTable
from hornmill.operators import standard, with_operator
from hornmill.reader import ending, read_term, read_terms
from hornmill.writer import brackets, written
from tests.support import PERCENT, odd_values

STANDARD = {
    (1200, "xfx"): [":-", "-->"], (1200, "fx"): [":-"], (1100, "xfy"): [";"], (1050, "xfy"): ["->", "*->"],
    (900, "fy"): ["\\+"],
    (700, "xfx"): ["=", "\\=", "==", "\\==", "@<", "@>", "@=<", "@>=", "is", "=:=", "=\\=", "<", ">", "=<", ">=", "=.."],
    (500, "yfx"): ["+", "-", "/\\", "\\/", "xor"], (400, "yfx"): ["*", "/", "//", "div", "mod", "rem", "<<", ">>"],
    (200, "xfx"): ["**"], (200, "xfy"): ["^"], (200, "fy"): ["-", "+", "\\"],
}

WRONG_ITEMS = odd_values() + [
    "", "ab", 5, (), [], [700, "xfx", "is"], ("xfx", "is"), (700, "xfx"), (700, "xfx", "is", "is"), (700, "is", "xfx"),
    (0, "xfx", "is"), (-1, "xfx", "is"), (1201, "xfx", "is"), (10 ** 30, "xfx", "is"), (True, "xfx", "is"),
    (False, "xfx", "is"), ("700", "xfx", "is"), (700.0, "xfx", "is"), (None, "xfx", "is"), ([], "xfx", "is"),
    (700, "", "is"), (700, "f", "is"), (700, "x", "is"), (700, "xx", "is"), (700, "yfy", "is"), (700, "xfxx", "is"),
    (700, "XFX", "is"), (700, "fxx", "is"), (700, None, "is"), (700, ["xfx"], "is"), (700, {}, "is"), (700, 1, "is"),
    (700, b"fx", "is"), (700, ("fx",), "is"),
    (700, "xfx", ""), (700, "xfx", "."), (700, "xfx", ","), (700, "xfx", "|"), (700, "xfx", "[]"), (700, "xfx", "{}"),
    (700, "xfx", "("), (700, "xfx", "A"), (700, "xfx", "_a"), (700, "xfx", "1"), (700, "xfx", "a b"), (700, "xfx", " a"),
    (700, "xfx", "a "), (700, "xfx", "a-"), (700, "xfx", "-a"), (700, "xfx", "!!"), (700, "xfx", "-;"), (700, "xfx", "'is'"),
    (700, "xfx", "a'"), (700, "xfx", "a\n"), (700, "xfx", "\xe9"), (700, "xfx", PERCENT), (700, "xfx", "a" * 41),
    (700, "xfx", "-" * 41), (700, "xfx", 1), (700, "xfx", None), (700, "xfx", ["is"]), (700, "xfx", (0,)), (700, "xfx", b"is"),
    (700, "xfx", True), (700, "xfx", {}), (700, "fx", "."), (700, "yf", "\""), (700, "xfx", ("f", "a")),
]

RIGHT_NAMES = ["a", "is", "aB_1", "a" * 40, "-", "-" * 40, "..", ".-", "!", ";", "\\", "=..", ":-", "+-*/\\^<>=~:.?@#&$"]


class Standard(unittest.TestCase):
    def test_row_by_row(self):
        rows = [(priority, kind, name) for (priority, kind), names in STANDARD.items() for name in names]
        self.assertEqual(len(rows), 41)
        self.assertEqual(standard(), sorted(rows))
        self.assertIs(type(standard()), list)

    def test_each_call_returns_a_new_list(self):
        standard().clear()
        self.assertEqual(len(standard()), 41)

    def test_it_is_a_table(self):
        self.assertEqual(with_operator(standard(), 0, "fx", "nobody"), standard())


class Tables(unittest.TestCase):
    def check(self, table, why):
        calls = (lambda: with_operator(table, 700, "xfx", "is"), lambda: read_term("a", table), lambda: read_terms("a.", table),
                 lambda: ending("a", table), lambda: written("a", table), lambda: brackets("a", table))
        for at, call in enumerate(calls):
            with self.subTest(str(table)[:60], call=at):
                with self.assertRaises(NoTable) as caught:
                    call()
                self.assertEqual(caught.exception.why, why)
                self.assertIs(type(caught.exception.why), int)

    def test_what_is_no_list_or_tuple(self):
        for wrong in odd_values() + ["", "ab", 7, "is"]:
            self.check(wrong, -1)

    def test_items_that_are_none(self):
        for item in WRONG_ITEMS:
            self.check([item], 0)
            self.check((item,), 0)
            self.check([(700, "xfx", "="), (200, "fy", "="), item, None], 2)

    def test_items_that_do_not_go_with_an_earlier_one(self):
        for one, other in ((("fx", "fy")), ("fx", "fx"), ("xfx", "xfx"), ("xfx", "yfx"), ("xfy", "xf"), ("xf", "yf"), ("yf", "yfx")):
            for first, second in ((one, other), (other, one)):
                self.check([(700, first, "is"), (700, second, "is")], 1)
                self.check([(700, first, "is"), (300, second, "as"), (200, "xfx", "="), (400, second, "is"), None], 3)
        self.check([(700, "xfx", "is"), (700, "xfx", "is")], 1)

    def test_items_that_go_together(self):
        for one, other in (("fx", "xfx"), ("fy", "yf"), ("xfy", "fx"), ("xf", "fy")):
            table = [(700, one, "is"), (600, other, "is"), (700, one, "as")]
            for shape in (table, tuple(table), table[::-1]):
                self.assertEqual(with_operator(shape, 0, "fx", "nobody"), sorted(table))

    def test_edges_of_priorities(self):
        for priority in (1, 2, 1199, 1200):
            for kind in ("fx", "fy", "xfx", "xfy", "yfx", "xf", "yf"):
                self.assertEqual(with_operator([(priority, kind, "a")], 0, kind, "b"), [(priority, kind, "a")])

    def test_names(self):
        for name in RIGHT_NAMES:
            self.assertEqual(with_operator([(1, "fx", name)], 0, "xf", name), [(1, "fx", name)])

    def test_no_operators(self):
        for table in ([], ()):
            self.assertEqual(with_operator(table, 0, "fx", "a"), [])


class WithOperator(unittest.TestCase):
    def test_the_example(self):
        self.assertEqual(with_operator([(700, "xfx", "is")], 200, "xf", "is"), [(200, "xf", "is")])

    def test_a_new_operator(self):
        table = [(700, "xfx", "is"), (200, "fy", "-")]
        self.assertEqual(with_operator(table, 300, "fx", "is"), [(200, "fy", "-"), (300, "fx", "is"), (700, "xfx", "is")])
        self.assertEqual(with_operator(table, 1200, "xfy", "="), [(200, "fy", "-"), (700, "xfx", "is"), (1200, "xfy", "=")])
        self.assertEqual(with_operator(table, 1, "yf", "-"), [(1, "yf", "-"), (200, "fy", "-"), (700, "xfx", "is")])

    def test_an_operator_of_the_same_sort_goes(self):
        for old in ("xfx", "xfy", "yfx", "xf", "yf"):
            for kind in ("xfx", "xfy", "yfx", "xf", "yf"):
                table = [(700, old, "a"), (700, "fx", "a"), (700, old, "b")]
                self.assertEqual(with_operator(table, 5, kind, "a"), sorted([(5, kind, "a"), (700, "fx", "a"), (700, old, "b")]))
        for old in ("fx", "fy"):
            for kind in ("fx", "fy"):
                table = [(700, old, "a"), (700, "xf", "a"), (700, old, "b")]
                self.assertEqual(with_operator(table, 5, kind, "a"), sorted([(5, kind, "a"), (700, "xf", "a"), (700, old, "b")]))

    def test_the_priority_zero_takes_it_away(self):
        table = [(700, "xfx", "a"), (600, "fx", "a"), (500, "xf", "b")]
        for kind in ("xfx", "xfy", "yfx", "xf", "yf"):
            self.assertEqual(with_operator(table, 0, kind, "a"), [(500, "xf", "b"), (600, "fx", "a")])
        for kind in ("fx", "fy"):
            self.assertEqual(with_operator(table, 0, kind, "a"), [(500, "xf", "b"), (700, "xfx", "a")])
            self.assertEqual(with_operator(table, 0, kind, "b"), sorted(table))
            self.assertEqual(with_operator(table, 0, kind, "c"), sorted(table))

    def test_the_passed_table_stays(self):
        table = [(700, "xfx", "is"), (200, "fy", "-")]
        found = with_operator(table, 300, "xf", "is")
        self.assertEqual(table, [(700, "xfx", "is"), (200, "fy", "-")])
        self.assertEqual(found, [(200, "fy", "-"), (300, "xf", "is")])
        found.clear()
        self.assertEqual(with_operator(table, 0, "fx", "a"), [(200, "fy", "-"), (700, "xfx", "is")])

    def test_sorted_as_tuples(self):
        table = [(700, "xfy", "b"), (700, "xfx", "c"), (700, "xfy", "a"), (5, "yf", "z")]
        self.assertEqual(with_operator(table, 700, "fy", "d"),
                         [(5, "yf", "z"), (700, "fy", "d"), (700, "xfx", "c"), (700, "xfy", "a"), (700, "xfy", "b")])

    def refused(self, why, *args):
        with self.subTest(str(args)[:60]):
            with self.assertRaises(NoOperator) as caught:
                with_operator(*args)
            self.assertEqual(caught.exception.why, why)

    def test_wrong_priorities(self):
        for wrong in [one for one in odd_values() if not type(one) is int] + ["700", "", (), [], -1, 1201, 10 ** 40, -10 ** 40]:
            self.refused("priority", [], wrong, "xfx", "is")
            self.refused("priority", standard(), wrong, "nothing", "A")

    def test_priorities_at_the_edges(self):
        for priority in (0, 1, 2, 999, 1000, 1199, 1200):
            for kind in ("fx", "fy", "xfx", "xfy", "yfx", "xf", "yf"):
                found = with_operator([], priority, kind, "is")
                self.assertEqual(found, [(priority, kind, "is")] if priority else [])

    def test_wrong_kinds(self):
        for wrong in odd_values() + ["", "f", "xfxx", "yfy", "XFX", "xx", (), [], ("fx",), ["fx"], 3, " fx", "fx "]:
            self.refused("kind", [], 700, wrong, "is")
            self.refused("kind", standard(), 0, wrong, None)

    def test_wrong_names(self):
        names = ["", ".", ",", "|", "[]", "{}", "A", "_", "1", "a b", "a-", "!!", "a" * 41, "-" * 41, "'a'", PERCENT, "\xe9", 3, (0,)]
        for wrong in odd_values() + names:
            self.refused("name", [], 700, "xfx", wrong)
            self.refused("name", standard(), 0, "fy", wrong)

    def test_right_names(self):
        for name in RIGHT_NAMES:
            self.assertEqual(with_operator((), 700, "yfx", name), [(700, "yfx", name)])

    def test_a_wrong_table_is_told_first(self):
        for table, why in ((None, -1), ([None], 0), ([(1, "fx", "a"), (1, "fx", "a")], 1)):
            with self.assertRaises(NoTable) as caught:
                with_operator(table, True, None, [])
            self.assertEqual(caught.exception.why, why)


if __name__ == "__main__":
    unittest.main()
