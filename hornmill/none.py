"""The second part of the builtins: those of texts (from hornmill.texts), of lists and of numbers."""

from hornmill.collects import sorted_once
from hornmill.faults import Fault, demand_bound, demand_items, demand_kind, demand_may_be_list, demand_not_negative
from hornmill.lists import listed, unlisted
from hornmill.order import order_key
from hornmill.rows import FAILED, next_of, passed, row_of
from hornmill.terms import is_variable
from hornmill.texts import TEXT_BUILTINS

LONGEST = 1000


def part_row(key, asked):
    """The row of a builtin of this part; None for all other keys."""
    if key in TEXT_BUILTINS:
        action = TEXT_BUILTINS[key]
        return action(asked)
    if key in LIST_BUILTINS:
        action = LIST_BUILTINS[key]
        return action(asked)
    return None


def _between(asked):
    low, high, number = asked.terms
    demand_bound(low)
    demand_bound(high)
    for term in asked.terms:
        demand_kind("integer", term)
    if not is_variable(number):
        return passed(low <= number <= high)
    if low > high:
        return FAILED
    return row_of([(number, low + asked.k)], next_of(asked.k, high - low + 1))


def _length(asked):
    whole, many = asked.terms
    demand_may_be_list(whole)
    demand_kind("integer", many)
    demand_not_negative(many)
    items, tail = unlisted(whole)
    if tail == "[]":
        return row_of([(many, len(items))])
    demand_bound(many)
    if many > LONGEST:
        raise Fault(("resource_error", "list"))
    if many < len(items):
        return FAILED
    return row_of([(tail, listed([(asked.first + k,) for k in range(many - len(items))]))])


def _msort(asked):
    given, result = asked.terms
    return row_of([(result, listed(sorted(demand_items(given), key=order_key)))])


def _sort(asked):
    given, result = asked.terms
    return row_of([(result, listed(sorted_once(demand_items(given))))])


def _keysort(asked):
    given, result = asked.terms
    items = demand_items(given)
    for item in items:
        demand_bound(item)
        demand_kind("pair", item)
    return row_of([(result, listed(sorted(items, key=_sort_key)))])


def _sort_key(pair):
    return order_key(pair[1])


LIST_BUILTINS = {
    ("between", 3): _between, ("length", 2): _length, ("msort", 2): _msort, ("sort", 2): _sort,
    ("keysort", 2): _keysort,
}
