"""THE ORDER of terms."""

from hornmill.errors import BadTerm
from hornmill.terms import demand_term, head_of, parts_of


def order_key(term):
    """A list that stands before that of another term just if the term does.

    Parts at the same place of two such lists stand at the same place of the two
    terms, as long as all parts ahead of them are alike.
    """
    return [head_of(part) for part in parts_of(term)]


def compare_terms(one, other):
    """Return -1, 0 or 1: one stands before the other, they are equal, or it stands behind."""
    demand_term(one)
    demand_term(other)
    first = order_key(one)
    second = order_key(other)
    if first == second:
        return 0
    return -1 if first < second else 1


def sort_terms(terms):
    """Return the list of the terms of a list or tuple in their order; equal ones all stay."""
    if not isinstance(terms, (list, tuple)):
        raise BadTerm(terms)
    for term in terms:
        demand_term(term)
    return sorted(terms, key=order_key)
