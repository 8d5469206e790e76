"""The builtins of the library of all solutions, whose names are integers."""

from hornmill.arithmetic import value_of
from hornmill.collects import free_of, grouped, sorted_once
from hornmill.faults import Fault, demand_bound, demand_kind, demand_may_be_list
from hornmill.lists import listed, unlisted
from hornmill.rows import FAILED, next_of, row_of
from hornmill.terms import TOO_GREAT

AGGREGATES = ("sum", "max", "min", "bag", "set")


def fault_place(key, args):
    """The name and the arity that errors of a builtin have as their place."""
    if key == (-1, 6):
        return (args[0], 3)
    if isinstance(key[0], int):
        return ("aggregate_all", 3)
    return key


def _split(asked):
    word, template, goal, found, witness, rest = asked.terms
    numbers, inner = free_of(template, goal)
    demand_bound(inner)
    demand_kind("callable", inner)
    demand_may_be_list(found)
    return row_of([(witness, listed([(k,) for k in numbers])), (rest, inner)])


def _groups(asked):
    word, witness, solutions, found = asked.terms
    groups = grouped(word, [(item[1], item[2]) for item in unlisted(solutions)[0]])
    if groups == []:
        return FAILED
    shown, items = groups[asked.k]
    return row_of([(witness, shown), (found, listed(items))], next_of(asked.k, len(groups)))


def _template(asked):
    kind, goal, result, template = asked.terms
    demand_bound(kind)
    if not _is_aggregate(kind):
        raise Fault(("domain_error", "aggregate", kind))
    demand_bound(goal)
    demand_kind("callable", goal)
    return row_of([(template, "true" if kind == "count" else kind[1])])


def _is_aggregate(kind):
    if not isinstance(kind, tuple):
        return kind == "count"
    return len(kind) == 2 and kind[0] in AGGREGATES


def _aggregated(asked):
    kind, solutions, result = asked.terms
    items = unlisted(solutions)[0]
    if kind == "count":
        return row_of([(result, len(items))])
    word = kind[0]
    if word == "bag":
        return row_of([(result, listed(items))])
    if word == "set":
        return row_of([(result, listed(sorted_once(items)))])
    values = [value_of(item) for item in items]
    if word == "sum":
        total = sum(values)
        if not -TOO_GREAT < total < TOO_GREAT:
            raise Fault(("resource_error", "integer"))
        return row_of([(result, total)])
    if values == []:
        return FAILED
    return row_of([(result, max(values) if word == "max" else min(values))])


SOLUTION_BUILTINS = {(-1, 6): _split, (-2, 4): _groups, (-3, 4): _template, (-4, 3): _aggregated}
