"""All solutions: the library, and how solutions are grouped."""

from hornmill.bindings import demand_pairs
from hornmill.errors import BadPairs
from hornmill.order import order_key
from hornmill.parts import Parts
from hornmill.terms import demand_term, numbers_in, renumbered, replaced

WORDS = ("bagof", "setof")


def library():
    """Return the flat clauses of the library."""
    return [_solutions("bagof"), _solutions("setof"), _aggregate()]


def _solutions(word):
    """The flat clause of bagof or setof."""
    template, goal, found, witness, inner, solutions = [(k,) for k in range(6)]
    return ((word, 3), (template, goal, found), (
        ("do", (-1, 6), (word, template, goal, found, witness, inner)),
        ("do", ("findall", 3), (("-", witness, template), inner, solutions)),
        ("do", (-2, 4), (word, witness, solutions, found)),
    ))


def _aggregate():
    """The flat clause of aggregate_all."""
    kind, goal, result, template, solutions = [(k,) for k in range(5)]
    return (("aggregate_all", 3), (kind, goal, result), (
        ("do", (-3, 4), (kind, goal, result, template)),
        ("do", ("findall", 3), (template, goal, solutions)),
        ("do", (-4, 3), (kind, solutions, result)),
    ))


def free_of(template, goal):
    """Return the numbers of the free variables of a goal, and the goal behind all "^"."""
    demand_term(template)
    demand_term(goal)
    bound = {k: True for k in numbers_in(template)}
    while isinstance(goal, tuple) and len(goal) == 3 and goal[0] == "^":
        for k in numbers_in(goal[1]):
            bound[k] = True
        goal = goal[2]
    return ([k for k in numbers_in(goal) if k not in bound], goal)


def grouped(word, pairs):
    """Return the groups of solutions, tuples of a witness and the list of its solutions."""
    if not isinstance(word, str) or word not in WORDS:
        raise BadPairs(word)
    demand_pairs(pairs)
    groups = {}
    parts = Parts()
    for witness, solution in sorted(pairs, key=_witness_key):
        # Variants are those that have the same number once they are renumbered.
        form = parts.number(renumbered(witness), {})
        first, solutions = groups.setdefault(form, (witness, []))
        names = [(k,) for k in numbers_in(first)]
        solutions.append(replaced(solution, dict(zip(numbers_in(witness), names))))
    if word == "bagof":
        return list(groups.values())
    return [(witness, sorted_once(solutions)) for witness, solutions in groups.values()]


def _witness_key(pair):
    return order_key(pair[0])


def sorted_once(terms):
    """The terms in their order, equal ones once."""
    found = []
    last = None
    for term in sorted(terms, key=order_key):
        this = order_key(term)
        if this != last:
            found.append(term)
        last = this
    return found
