"""The builtins that take terms apart and make them."""

from hornmill.faults import Fault, demand_bound, demand_items, demand_kind, demand_not_negative, is_of
from hornmill.lists import listed
from hornmill.rows import FAILED, next_of, row_of
from hornmill.terms import MOST_ARGUMENTS, is_variable, numbers_in, replaced


def new_variables(asked, many):
    """So many variables that are not among the arguments of a call."""
    return [(asked.first + k,) for k in range(many)]


def copied(asked, term):
    """The term with new variables in the places of its own."""
    numbers = numbers_in(term)
    return replaced(term, dict(zip(numbers, new_variables(asked, len(numbers)))))


def _equal(asked):
    return row_of([asked.terms])


def _fail(asked):
    return FAILED


def _copy_term(asked):
    term, copy = asked.terms
    return row_of([(copy, copied(asked, term))])


def _term_variables(asked):
    term, found = asked.terms
    return row_of([(found, listed([(k,) for k in numbers_in(term)]))])


def _functor(asked):
    term, name, many = asked.terms
    if not is_variable(term):
        if isinstance(term, tuple):
            return row_of([(name, term[0]), (many, len(term) - 1)])
        return row_of([(name, term), (many, 0)])
    demand_bound(name)
    demand_kind("atomic", name)
    demand_bound(many)
    demand_kind("integer", many)
    demand_not_negative(many)
    if many == 0:
        return row_of([(term, name)])
    demand_kind("atom", name)
    _demand_arity(many)
    return row_of([(term, (name, *new_variables(asked, many)))])


def _demand_arity(many):
    """Throw an error for more arguments than a compound can have."""
    if many > MOST_ARGUMENTS:
        raise Fault(("representation_error", "max_arity"))


def _arg(asked):
    place, term, argument = asked.terms
    demand_kind("integer", place)
    demand_not_negative(place)
    demand_bound(term)
    demand_kind("compound", term)
    many = len(term) - 1
    if not is_variable(place):
        return row_of([(argument, term[place])]) if 1 <= place <= many else FAILED
    at = asked.k + 1
    return row_of([(place, at), (argument, term[at])], next_of(asked.k, many))


def _univ(asked):
    term, parts = asked.terms
    if is_of("compound", term) and not is_variable(term):
        return row_of([(parts, listed(term))])
    if not is_variable(term):
        return row_of([(parts, listed([term]))])
    items = demand_items(parts)
    if items == []:
        raise Fault(("domain_error", "non_empty_list", "[]"))
    demand_bound(items[0])
    if len(items) == 1:
        demand_kind("atomic", items[0])
        return row_of([(term, items[0])])
    demand_kind("atom", items[0])
    _demand_arity(len(items) - 1)
    return row_of([(term, tuple(items))])


MAKE_BUILTINS = {
    ("=", 2): _equal, ("fail", 0): _fail, ("copy_term", 2): _copy_term, ("term_variables", 2): _term_variables,
    ("functor", 3): _functor, ("arg", 3): _arg, ("=..", 2): _univ,
}
