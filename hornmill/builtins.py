"""Builtins by their keys."""

from hornmill.arithmetic import NUMBER_BUILTINS
from hornmill.database import WORLD_BUILTINS
from hornmill.faults import Fault, error_ball
from hornmill.looks import LOOK_BUILTINS
from hornmill.makes import MAKE_BUILTINS
from hornmill.none import part_row
from hornmill.rows import Asked
from hornmill.solutions import SOLUTION_BUILTINS, fault_place
from hornmill.sorts import sort_named


def sort_of(key):
    """Return "rows", "control" or "one" for a key, None for any other value."""
    return sort_named(key)


def builtin_row(world, key, args, k):
    """Return ("row", pairs, next), ("none",) or ("throw", ball) for a call of a builtin."""
    asked = Asked(world, args, k)
    try:
        return _row(key, asked)
    except Fault as fault:
        name, arity = fault_place(key, args)
        return ("throw", error_ball(fault.formal, name, arity))


def _row(key, asked):
    """The row that a builtin tells; it may throw an error."""
    if key in LOOK_BUILTINS:
        action = LOOK_BUILTINS[key]
    elif key in MAKE_BUILTINS:
        action = MAKE_BUILTINS[key]
    elif key in NUMBER_BUILTINS:
        action = NUMBER_BUILTINS[key]
    elif key in WORLD_BUILTINS:
        action = WORLD_BUILTINS[key]
    elif key in SOLUTION_BUILTINS:
        action = SOLUTION_BUILTINS[key]
    else:
        return part_row(key, asked)
    return action(asked)
