"""Clauses as worlds keep them, and as machines run them."""

from hornmill.emitting import code_of
from hornmill.terms import is_variable


class Coded:
    """A flat clause as machines run it, compiled when it is first run.

    index tells what the first argument of its head is at its root.
    """

    def __init__(self, flat):
        self.source = flat
        self.index = index_of(flat[1])
        self.written_once = None

    def instructions(self):
        """The code."""
        if self.written_once is None:
            self.written_once = code_of(self.source)
        return self.written_once


class Kept:
    """A clause that a world keeps: its number, the clause as stored, and as machines run it."""

    def __init__(self, serial, clause, flat):
        self.serial = serial
        self.clause = clause
        self.coded = Coded(flat)
        self.index = self.coded.index


def index_of(args):
    """What the first argument of a head is at its root; None for a variable, or without arguments."""
    if args == () or is_variable(args[0]):
        return None
    first = args[0]
    return (first[0], len(first)) if isinstance(first, tuple) else (first, 0)


def can_begin(kept, root):
    """Tell whether a clause is tried for a call whose first argument has this root."""
    return root is None or kept.index is None or kept.index == root


def library_clause(flat):
    """The clause, kept as of a world, of a flat clause all of whose goals are builtins."""
    key, args, goals = flat
    leaves = [(inner[0], *terms) for word, inner, terms in goals]
    body = leaves[-1]
    for leaf in reversed(leaves[:-1]):
        body = (",", leaf, body)
    return Kept(-1, (":-", (key[0], *args), body), flat)
