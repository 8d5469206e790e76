"""The code of flat clauses."""

from hornmill.emitting import Emitter, code_of
from hornmill.flatforms import demand_flat


def compiled(flat):
    """Return the code of a flat clause."""
    demand_flat(flat)
    return code_of(flat)


def unsafe(flat):
    """Return the ascending list of the numbers of the variables for which the code has a give_unsafe."""
    demand_flat(flat)
    emitter = Emitter(flat)
    given = {instruction[1]: True for instruction in emitter.code if instruction[0] == "give_unsafe"}
    return sorted([k for k, place in emitter.places.items() if place in given])


def size(flat):
    """Return how many instructions the code of a flat clause has."""
    demand_flat(flat)
    return len(code_of(flat))
