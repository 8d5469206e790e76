"""Clauses as worlds keep them."""

from hornmill.terms import is_variable


class Kept:
    """A clause that a world keeps.

    clause is the clause as stored, flats the list of its flat clause and, behind it, those
    of its new predicates; index tells what the first argument is at its root.
    """

    def __init__(self, serial, clause, flats):
        self.serial = serial
        self.clause = clause
        self.flats = flats
        self.index = index_of(clause[1])


def index_of(head):
    """What the first argument of a head is at its root; None for a variable, or without arguments."""
    if not isinstance(head, tuple):
        return None
    first = head[1]
    if is_variable(first):
        return None
    return (first[0], len(first)) if isinstance(first, tuple) else (first, 0)


def can_begin(kept, root):
    """Tell whether a clause is tried for a call whose first argument has this root."""
    return root is None or kept.index is None or kept.index == root


def library_clause(flat):
    """The clause, kept as of a world, of a flat clause all of whose goals are builtins."""
    key, args, goals = flat
    leaves = [(inner[0], *terms) for word, inner, terms in goals]
    body = leaves[-1]
    for leaf in reversed(leaves[:-1]):
        body = (",", leaf, body)
    return Kept(-1, (":-", (key[0], *args), body), [flat])
