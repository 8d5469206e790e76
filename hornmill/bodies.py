"""Goals, bodies and clauses."""

from hornmill.errors import NoClause
from hornmill.faults import is_callable
from hornmill.terms import folded, is_term, is_variable, renumbered

CONSTRUCTS = {
    (",", 2): True, (";", 2): True, ("->", 2): True, ("*->", 2): True,
    ("\\+", 1): True, ("once", 1): True, ("ignore", 1): True, ("forall", 2): True,
}


def is_body(term):
    """Tell whether anything is a body."""
    return is_term(term) and has_goals(term)


def is_clause(term):
    """Tell whether anything is a clause."""
    if not is_term(term):
        return False
    head, body = sides_of(term)
    return is_callable(head) and has_goals(body)


def stored(clause):
    """The clause as (":-", head, body), with ("call", V) for leaves V, renumbered; raise NoClause."""
    if not is_term(clause):
        raise NoClause("head")
    head, body = sides_of(clause)
    if not is_callable(head):
        raise NoClause("head")
    if not has_goals(body):
        raise NoClause("body")
    return renumbered((":-", head, with_calls(body)))


def sides_of(term):
    """The head and the body of a term as a clause."""
    if isinstance(term, tuple) and len(term) == 3 and term[0] == ":-":
        return term[1], term[2]
    return term, "true"


def key_of(term):
    """The key of a callable term."""
    return (term[0], len(term) - 1) if isinstance(term, tuple) else (term, 0)


def is_construct(goal):
    """Tell whether a goal is a construct."""
    return isinstance(goal, tuple) and key_of(goal) in CONSTRUCTS


def leaves_of(goal):
    """The leaves of a goal, from the left."""
    found = []
    waiting = [goal]
    while waiting:
        one = waiting.pop()
        if is_construct(one):
            waiting.extend(one[:0:-1])
        else:
            found.append(one)
    return found


def has_goals(term):
    """Tell whether no leaf of a term, taken as a goal, is an integer."""
    return not any([isinstance(leaf, int) for leaf in leaves_of(term)])


def with_calls(goal):
    """The goal with ("call", V) for each leaf that is a variable V."""
    row = []
    waiting = [goal]
    while waiting:
        one = waiting.pop()
        if is_construct(one):
            row.append(key_of(one))
            waiting.extend(one[:0:-1])
        else:
            row.append((("call", one) if is_variable(one) else one, 0))
    return folded(row)
