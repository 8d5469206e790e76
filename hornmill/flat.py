"""Flat clauses."""

from hornmill.bodies import has_goals, key_of, sides_of, stored, with_calls
from hornmill.errors import NoClause
from hornmill.flattening import Flattener
from hornmill.terms import arguments_of, is_term, numbers_in


def flattened(clause, first):
    """Return the flat clauses of a clause; new predicates have the integers from first on."""
    head, body = sides_of(stored(clause))
    flattener = Flattener(arguments_of(head), body, first, 1)
    return flattener.flatten(key_of(head))


def flat_goal(goal, name):
    """Return the flat clauses of a goal; new predicates have the integers from name - 1 downwards."""
    if not is_term(goal) or not has_goals(goal):
        raise NoClause("body")
    args = tuple([(k,) for k in numbers_in(goal)])
    flattener = Flattener(args, with_calls(goal), name - 1, -1)
    return flattener.flatten((name, len(args)))
