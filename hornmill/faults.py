"""The errors that builtins throw, and the checks that throw them."""

from hornmill.lists import is_list, may_be_list, unlisted
from hornmill.terms import is_variable


class Fault(Exception):
    """A builtin throws an error; formal is the formal part of its ball."""

    def __init__(self, formal):
        Exception.__init__(self, "a builtin throws an error")
        self.formal = formal


def error_ball(formal, name, arity):
    """The ball of an error that the builtin or the construct of this key throws."""
    return ("error", formal, ("/", name, arity))


def is_callable(term):
    """Tell whether a term is an atom or a compound."""
    return isinstance(term, str) or (isinstance(term, tuple) and len(term) > 1)


def is_of(kind, term):
    """Tell whether a term that is no variable is of a kind."""
    if kind == "atom":
        return isinstance(term, str)
    if kind == "integer":
        return isinstance(term, int)
    if kind == "atomic":
        return not isinstance(term, tuple)
    if kind == "compound":
        return isinstance(term, tuple)
    if kind == "list":
        return is_list(term)
    if kind == "character":
        return isinstance(term, str) and len(term) == 1
    if kind == "pair":
        return isinstance(term, tuple) and len(term) == 3 and term[0] == "-"
    return is_callable(term)


def demand_bound(term):
    """Throw an error for a variable."""
    if is_variable(term):
        raise Fault("instantiation_error")


def demand_kind(kind, term):
    """Throw an error for what is neither a variable nor of a kind."""
    if not is_variable(term) and not is_of(kind, term):
        raise Fault(("type_error", kind, term))


def demand_not_negative(term):
    """Throw an error for an integer below 0."""
    if isinstance(term, int) and term < 0:
        raise Fault(("domain_error", "not_less_than_zero", term))


def demand_items(term):
    """The items of a list; throw an error for what is none."""
    items, tail = unlisted(term)
    demand_bound(tail)
    if tail != "[]":
        raise Fault(("type_error", "list", term))
    return items


def demand_may_be_list(term):
    """Throw an error for what is neither a list nor a partial one."""
    if not may_be_list(term):
        raise Fault(("type_error", "list", term))
