"""Addresses and cells."""

from hornmill.errors import BadCell
from hornmill.terms import MOST_ARGUMENTS, is_atom, is_integer, is_number, is_term

NO_CELL = ("none",)


def is_address(value):
    """Tell whether anything is an address; of two of them the older one is the lesser tuple."""
    if not isinstance(value, tuple) or len(value) != 2 or not isinstance(value[0], str):
        return False
    return value[0] in ("h", "s") and is_number(value[1])


def is_cell(value):
    """Tell whether anything is a cell."""
    if not isinstance(value, tuple) or value == () or not isinstance(value[0], str):
        return False
    if len(value) == 2:
        return _is_pair_cell(value[0], value[1])
    if len(value) == 3:
        return value[0] == "fun" and is_atom(value[1]) and is_integer(value[2]) and 1 <= value[2] <= MOST_ARGUMENTS
    return value == NO_CELL


def _is_pair_cell(word, what):
    """Tell whether a word and something make a cell."""
    if word == "ref":
        return is_address(what)
    if word == "con":
        return is_atom(what)
    if word == "int":
        return is_integer(what) and is_term(what)
    if word == "str":
        return is_address(what) and what[0] == "h"
    return word == "level" and is_number(what)


def demand_cell(value):
    """Raise BadCell for what is no cell."""
    if not is_cell(value):
        raise BadCell(value)
