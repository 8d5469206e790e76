"""Whether code is sound."""

from hornmill.code import demand_code, slot_in
from hornmill.errors import BadValue, NoCode
from hornmill.holding import Holding
from hornmill.terms import is_number


def judge(arity, code):
    """Return the place of the first instruction with a fault and the word of this, None if there is none."""
    _demand(arity, code)
    holding = Holding(arity)
    for place, instruction in enumerate(code):
        word = holding.go_on(instruction)
        if word is not None:
            return (place, word)
    return None


def held(arity, code, place):
    """Return the number of slots, or None, and a dict from places to what they hold ahead of an instruction."""
    _demand(arity, code)
    if not is_number(place) or place >= len(code):
        raise BadValue("place")
    holding = Holding(arity)
    for instruction in code[:place]:
        if holding.go_on(instruction) is not None:
            raise NoCode("fault")
    return (holding.slots, holding.places)


def _demand(arity, code):
    """Raise BadValue or NoCode for what is no arity or no code."""
    if not is_number(arity):
        raise BadValue("arity")
    demand_code(code)


def least_trims(code):
    """Return for each call the greatest slot that an instruction behind it names, or 0."""
    demand_code(code)
    found = []
    greatest = 0
    for instruction in reversed(code):
        if instruction[0] == "call":
            found.append(greatest)
        greatest = max(greatest, slot_in(instruction))
    return found[::-1]
