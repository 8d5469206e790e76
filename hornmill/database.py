"""The builtins that read and change the clauses of a world, and those that write to its output."""

from hornmill.bodies import has_goals, key_of, sides_of, stored
from hornmill.faults import Fault, demand_bound, demand_kind, demand_not_negative, is_of
from hornmill.operators import standard
from hornmill.rows import FAILED, row_of
from hornmill.sorts import is_fixed
from hornmill.terms import MOST_ARGUMENTS, numbers_in, replaced
from hornmill.unify import unify
from hornmill.writer import unquoted, written


def _demand_free(key, action, kind):
    """Throw an error for a key whose predicate programs cannot change or look at."""
    if is_fixed(key):
        raise Fault(("permission_error", action, kind, ("/", key[0], key[1])))


def _asserta(asked):
    return _assert(asked, True)


def _assertz(asked):
    return _assert(asked, False)


def _assert(asked, is_first):
    """Add a clause ahead of all of its predicate, or behind them."""
    clause = asked.terms[0]
    head, body = sides_of(clause)
    demand_bound(head)
    demand_kind("callable", head)
    if not has_goals(body):
        raise Fault(("type_error", "callable", body))
    _demand_free(key_of(head), "modify", "static_procedure")
    asked.world.put_clause(stored(clause), is_first)
    return row_of([])


def _clause(asked):
    head, body = asked.terms
    demand_bound(head)
    demand_kind("callable", head)
    demand_kind("callable", body)
    _demand_free(key_of(head), "access", "private_procedure")
    found = _fitting(asked, head, body)
    return row_of(found[0][1], found[1]) if found[0] is not None else FAILED


def _retract(asked):
    head, body = sides_of(asked.terms[0])
    _demand_changeable(head)
    found = _fitting(asked, head, body)
    if found[0] is None:
        return FAILED
    asked.world.erase(found[0][0])
    return row_of(found[0][1], found[1])


def _retractall(asked):
    head = asked.terms[0]
    _demand_changeable(head)
    world = asked.world
    key = key_of(head)
    for number in world.living(key):
        if unify([(head, _copy(asked, number)[1])]) is not None:
            world.erase(number)
    world.make_known(key)
    return row_of([])


def _demand_changeable(head):
    """Throw an error for what is no head of clauses that programs can take away."""
    demand_bound(head)
    demand_kind("callable", head)
    _demand_free(key_of(head), "modify", "static_procedure")


def _copy(asked, number):
    """A clause of the world with new variables."""
    clause = asked.world.clause_of(number)
    return replaced(clause, {k: (asked.first + k,) for k in numbers_in(clause)})


def _fitting(asked, head, body):
    """The first clause that lives and fits, and what is handed in for the next row.

    A clause is told as its number and the pairs by which it fits. For the first row k is
    0; then it tells the numbers of the clauses that were seen and have not been come to.
    """
    seen = asked.world.living(key_of(head)) if asked.k == 0 else asked.k
    first = None
    for at, number in enumerate(seen):
        if asked.world.lives(number):
            copy = _copy(asked, number)
            pairs = [(head, copy[1]), (body, copy[2])]
            if unify(pairs) is not None:
                if first is not None:
                    return (first, tuple(seen[at:]))
                first = (number, pairs)
    return (first, None)


def _abolish(asked):
    indicator = asked.terms[0]
    demand_bound(indicator)
    if not is_of("compound", indicator) or len(indicator) != 3 or indicator[0] != "/":
        raise Fault(("type_error", "predicate_indicator", indicator))
    name, arity = indicator[1:]
    demand_bound(name)
    demand_bound(arity)
    demand_kind("atom", name)
    demand_kind("integer", arity)
    demand_not_negative(arity)
    if arity > MOST_ARGUMENTS:
        raise Fault(("representation_error", "max_arity"))
    _demand_free((name, arity), "modify", "static_procedure")
    asked.world.abolish((name, arity))
    return row_of([])


def _write(asked):
    asked.world.put_text(unquoted(asked.terms[0], standard()))
    return row_of([])


def _writeq(asked):
    asked.world.put_text(written(asked.terms[0], standard()))
    return row_of([])


def _nl(asked):
    asked.world.put_text("\n")
    return row_of([])


WORLD_BUILTINS = {
    ("asserta", 1): _asserta, ("assertz", 1): _assertz, ("clause", 2): _clause, ("retract", 1): _retract,
    ("retractall", 1): _retractall, ("abolish", 1): _abolish, ("write", 1): _write, ("writeq", 1): _writeq,
    ("nl", 0): _nl,
}
