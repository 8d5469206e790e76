"""The examples of DOC.md for the modules that are there, as its last section has them; those of README.md."""

import doctest
import pathlib
import unittest

from hornmill.terms import depth_of, renumbered, size_of, variables_of
from hornmill.unify import is_most_general, unify


class Examples(unittest.TestCase):
    def test_terms(self):
        t = ("f", (7,), ("g", (3,), (7,)), "a")
        self.assertEqual([size_of(t), depth_of(t), variables_of(t), renumbered(t)],
                         [6, 3, [7, 3], ("f", (0,), ("g", (1,), (0,)), "a")])

    def test_unify(self):
        pairs = [(("f", (0,), (0,)), ("f", (1,), "a"))]
        self.assertEqual(
            [is_most_general(pairs, [(0, "a"), (1, "a")]), is_most_general(pairs, [(0, "a"), (1, "a"), (2, "b")]),
             unify([((0,), ("f", (0,)))])],
            [True, False, None])

    def test_the_forty_pairs(self):
        pairs = [((k + 1,), ("f", (k,), (k,))) for k in range(40)]
        self.assertIs(is_most_general(pairs, unify(pairs)), True)

    def test_readme(self):
        path = pathlib.Path(__file__).resolve().parent.parent / "README.md"
        failed, tried = doctest.testfile(str(path), module_relative=False)
        self.assertEqual(failed, 0)
        self.assertGreater(tried, 0)


if __name__ == "__main__":
    unittest.main()
