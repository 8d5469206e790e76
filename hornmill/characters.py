"""Characters and their codes."""

from hornmill.faults import Fault, demand_bound, demand_items, demand_kind
from hornmill.terms import BARRED_SIGN, MOST_SIGNS

# The signs of atoms by their codes, from 32 on, without the barred one.
SIGNS = " !\"#$&'()*+,-./0123456789:;<=>?@ABCDEFGHIJKLMNOPQRSTUVWXYZ[\\]^_`abcdefghijklmnopqrstuvwxyz{|}~"
FIRST_CODE = 32
LAST_CODE = 126


def demand_code(code):
    """Throw an error for an integer that is no code."""
    if not FIRST_CODE <= code <= LAST_CODE or code == BARRED_SIGN:
        raise Fault(("representation_error", "character"))


def character_of(code):
    """The character with a code."""
    place = code - FIRST_CODE
    return SIGNS[place] if code < BARRED_SIGN else SIGNS[place - 1]


def characters_in(term):
    """The characters of a list; throw an error for what is none."""
    items = demand_items(term)
    for item in items:
        demand_bound(item)
        demand_kind("character", item)
    return items


def codes_in(term):
    """The characters of a list of codes; throw an error for what is none."""
    items = demand_items(term)
    for item in items:
        demand_bound(item)
        demand_kind("integer", item)
        demand_code(item)
    return [character_of(item) for item in items]


def demand_short(signs):
    """Throw an error for more signs than an atom can have."""
    if len(signs) > MOST_SIGNS:
        raise Fault(("representation_error", "max_atom"))
