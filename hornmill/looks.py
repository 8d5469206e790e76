"""The builtins that look at terms and compare them."""

from hornmill.faults import Fault, demand_kind, is_callable
from hornmill.general import matching
from hornmill.lists import is_list
from hornmill.order import order_key
from hornmill.rows import FAILED, passed, row_of
from hornmill.terms import is_variable, numbers_in
from hornmill.unify import unify


def _order(one, other):
    """The atom that tells the order of two terms."""
    first = order_key(one)
    second = order_key(other)
    if first == second:
        return "="
    return "<" if first < second else ">"


def _same(asked):
    one, other = asked.terms
    return passed(_order(one, other) == "=")


def _unlike(asked):
    one, other = asked.terms
    return passed(_order(one, other) != "=")


def _before(asked):
    one, other = asked.terms
    return passed(_order(one, other) == "<")


def _behind(asked):
    one, other = asked.terms
    return passed(_order(one, other) == ">")


def _not_behind(asked):
    one, other = asked.terms
    return passed(_order(one, other) != ">")


def _not_before(asked):
    one, other = asked.terms
    return passed(_order(one, other) != "<")


def _compare(asked):
    sign, one, other = asked.terms
    demand_kind("atom", sign)
    if isinstance(sign, str) and sign not in ("<", "=", ">"):
        raise Fault(("domain_error", "order", sign))
    return row_of([(sign, _order(one, other))])


def _cannot_unify(asked):
    return passed(unify([asked.terms]) is None)


def _subsumes(asked):
    general, special = asked.terms
    found = matching(general, special)
    if found is None:
        return FAILED
    kept = {k: True for k in numbers_in(special)}
    return passed(all([term == (k,) for k, term in found if k in kept]))


def _var(asked):
    return passed(is_variable(asked.terms[0]))


def _nonvar(asked):
    return passed(not is_variable(asked.terms[0]))


def _atom(asked):
    return passed(isinstance(asked.terms[0], str))


def _integer(asked):
    return passed(isinstance(asked.terms[0], int))


def _atomic(asked):
    return passed(not isinstance(asked.terms[0], tuple))


def _compound(asked):
    return passed(isinstance(asked.terms[0], tuple) and len(asked.terms[0]) > 1)


def _callable(asked):
    return passed(is_callable(asked.terms[0]))


def _is_list(asked):
    return passed(is_list(asked.terms[0]))


def _ground(asked):
    return passed(numbers_in(asked.terms[0]) == [])


LOOK_BUILTINS = {
    ("==", 2): _same, ("\\==", 2): _unlike, ("@<", 2): _before, ("@>", 2): _behind, ("@=<", 2): _not_behind,
    ("@>=", 2): _not_before, ("\\=", 2): _cannot_unify, ("subsumes_term", 2): _subsumes, ("var", 1): _var,
    ("nonvar", 1): _nonvar, ("atom", 1): _atom, ("integer", 1): _integer, ("atomic", 1): _atomic,
    ("compound", 1): _compound, ("callable", 1): _callable, ("is_list", 1): _is_list, ("ground", 1): _ground,
    ("compare", 3): _compare,
}
