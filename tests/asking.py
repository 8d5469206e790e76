"""How tests ask builtins."""

import unittest

from hornmill.builtins import builtin_row
from hornmill.unify import is_most_general, unify
from tests.support import slow_renumbered

NONE = ("none",)


def type_error(kind, culprit):
    return ("type_error", kind, culprit)


def domain_error(word, culprit):
    return ("domain_error", word, culprit)


def representation_error(word):
    return ("representation_error", word)


def resource_error(word):
    return ("resource_error", word)


INST = "instantiation_error"


class Asking(unittest.TestCase):
    world = None

    def rows(self, key, *args):
        """The pairs of all rows of a call; the arguments are first numbered as [5.1] asks."""
        args = slow_renumbered(("", "") + args)[2:]
        found = []
        k = 0
        while k is not None:
            told = builtin_row(self.world, key, args if len(found) else list(args), k)
            if told == NONE:
                self.assertEqual(found, [])
                return []
            self.assertEqual(told[0], "row")
            self.assertEqual(len(told), 3)
            self.assertIs(type(told[1]), list)
            self.assertTrue(all(type(pair) is tuple and len(pair) == 2 for pair in told[1]))
            self.assertTrue(key in self.changing or builtin_row(self.world, key, args, k) == told)
            found.append(told[1])
            k = told[2]
        return found

    changing = (("retract", 1), ("asserta", 1), ("assertz", 1))

    def told(self, expected, key, *args):
        """Check all rows, whose pairs count by their most general bindings."""
        with self.subTest(key=key, args=str(args)[:60]):
            rows = self.rows(key, *args)
            self.assertEqual(len(rows), len(expected))
            for pairs, wanted in zip(rows, expected):
                bindings = unify(wanted)
                if bindings is None:
                    self.assertIsNone(unify(pairs))
                else:
                    self.assertTrue(is_most_general(pairs, bindings), f"{pairs} {wanted}")

    def passes(self, key, *args):
        self.told([[]], key, *args)

    def fails(self, key, *args):
        with self.subTest(key=key, args=str(args)[:60]):
            numbered = slow_renumbered(("", "") + args)[2:]
            self.assertEqual(builtin_row(self.world, key, numbered, 0), NONE)

    def throws(self, formal, key, *args, place=None):
        with self.subTest(key=key, args=str(args)[:60]):
            numbered = slow_renumbered(("", "") + args)[2:]
            ball = ("error", formal, ("/",) + (place or key))
            self.assertEqual(builtin_row(self.world, key, numbered, 0), ("throw", ball))
            self.assertEqual(builtin_row(self.world, key, list(numbered), 0), ("throw", ball))
