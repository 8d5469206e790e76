"""Unification, and how bindings are judged."""

from hornmill.bindings import demand_bindings, demand_pairs
from hornmill.classes import Classes
from hornmill.parts import Parts
from hornmill.terms import VARIABLE, demand_term, numbers_in, replaced


def resolved_term(term, bindings):
    """The term with the terms of bound variables in their places, until none is left."""
    demand_term(term)
    order = demand_bindings(bindings)
    terms = {k: inner for k, inner in bindings}
    known = {}
    for k in order:
        known[k] = replaced(terms[k], known)
    return replaced(term, known)


def unify(pairs):
    """Return most general bindings that unify pairs, or None if none unify them."""
    demand_pairs(pairs)
    parts = Parts()
    sides = [(parts.number(one, {}), parts.number(other, {})) for one, other in pairs]
    classes = Classes(parts.rows)
    if not classes.merge(sides) or classes.has_round():
        return None
    return classes.as_bindings()


def is_unifier(pairs, bindings):
    """Tell whether bindings unify pairs."""
    demand_pairs(pairs)
    order = demand_bindings(bindings)
    parts = Parts()
    return _are_equal(parts, pairs, parts.resolved(bindings, order))


def is_most_general(pairs, bindings):
    """Tell whether bindings unify pairs and are most general."""
    demand_pairs(pairs)
    order = demand_bindings(bindings)
    parts = Parts()
    known = parts.resolved(bindings, order)
    if not _are_equal(parts, pairs, known):
        return False
    # Other bindings that unify can only replace what most general ones leave free. So these
    # are most general, too, if they do no more than give it other, unlike names.
    bound = {k: True for k, term in unify(pairs)}
    free = [parts.number((k,), known) for k in _numbers_of(pairs, bindings) if k not in bound]
    return len(set(free)) == len(free) and all([parts.rows[at][0][0] == VARIABLE for at in free])


def _are_equal(parts, pairs, known):
    """Tell whether both sides of each pair are equal, with what variables are known to be."""
    return all([parts.number(one, known) == parts.number(other, known) for one, other in pairs])


def _numbers_of(pairs, bindings):
    """The numbers of all variables of pairs and bindings, each once."""
    found = {}
    for one, other in pairs:
        for k in numbers_in(one) + numbers_in(other):
            found[k] = True
    for k, term in bindings:
        for inner in [k] + numbers_in(term):
            found[inner] = True
    return list(found)
