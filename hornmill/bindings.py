"""What pairs and bindings are."""

from hornmill.errors import BadBindings, BadPairs
from hornmill.rounds import settled
from hornmill.terms import is_number, is_term, numbers_in


def demand_pairs(pairs):
    """Raise BadPairs for what is no list or tuple of tuples of two terms."""
    if not isinstance(pairs, (list, tuple)) or not all([_is_pair(pair) for pair in pairs]):
        raise BadPairs(pairs)


def _is_pair(pair):
    return isinstance(pair, tuple) and len(pair) == 2 and is_term(pair[0]) and is_term(pair[1])


def demand_bindings(bindings):
    """Return the bound variables, each behind those in its term; raise BadBindings."""
    if not _are_rows(bindings):
        raise BadBindings(bindings)
    bound = {k: True for k, term in bindings}
    order = settled({k: [inner for inner in numbers_in(term) if inner in bound] for k, term in bindings})
    if order is None:
        raise BadBindings(bindings)
    return order


def _are_rows(bindings):
    """Tell whether these are bindings, but for rounds."""
    if not isinstance(bindings, (list, tuple)):
        return False
    least = 0
    for row in bindings:
        if not isinstance(row, tuple) or len(row) != 2 or not is_number(row[0]):
            return False
        if row[0] < least or not is_term(row[1]):
            return False
        least = row[0] + 1
    return True
