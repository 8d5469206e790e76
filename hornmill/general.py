"""Terms that are more general than others."""

from hornmill.order import order_key
from hornmill.parts import Parts
from hornmill.terms import COMPOUND, VARIABLE, arguments_of, demand_term, folded, head_of, is_variable
from hornmill.terms import numbers_in, renumbered, replaced
from hornmill.unify import resolved_term, unify


def matching(general, special):
    """Return tuples (k, term), k rising, with which general becomes special; None if none do."""
    demand_term(general)
    demand_term(special)
    found = {}
    waiting = [(general, special)]
    while waiting:
        one, other = waiting.pop()
        if is_variable(one):
            known = found.setdefault(one[0], other)
            if order_key(known) != order_key(other):
                return None
        elif head_of(one) != head_of(other):
            return None
        else:
            waiting.extend(list(zip(arguments_of(one), arguments_of(other))))
    return sorted(list(found.items()), key=lambda row: row[0])


def subsumes(general, special):
    """Tell whether general becomes special when its variables are replaced."""
    return matching(general, special) is not None


def is_variant(one, other):
    """Tell whether each of two terms subsumes the other one."""
    return order_key(renumbered(one)) == order_key(renumbered(other))


def meet_of(one, other):
    """Return the most general term that both subsume, renumbered; None if there is none."""
    demand_term(one)
    demand_term(other)
    left = renumbered(one)
    many = len(numbers_in(left))
    right = replaced(other, {k: (many + place,) for place, k in enumerate(numbers_in(other))})
    bindings = unify([(left, right)])
    if bindings is None:
        return None
    return renumbered(resolved_term(left, bindings))


def join_of(one, other):
    """Return the least general term that subsumes both, renumbered."""
    demand_term(one)
    demand_term(other)
    parts = Parts()
    names = {}
    row = []
    waiting = [(parts.number(one, {}), parts.number(other, {}))]
    while waiting:
        pair = waiting.pop()
        left, right = parts.rows[pair[0]], parts.rows[pair[1]]
        head = left[0]
        if head != right[0] or head[0] == VARIABLE:
            row.append((names.setdefault(pair, (len(names),)), 0))
        elif head[0] == COMPOUND:
            row.append((head[2], head[1]))
            waiting.extend(list(zip(left[:0:-1], right[:0:-1])))
        else:
            row.append((head[1], 0))
    return folded(row)
