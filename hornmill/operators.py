"""Tables of operators."""

from hornmill.errors import NoOperator, NoTable
from hornmill.signs import is_name
from hornmill.terms import is_atom, is_integer

GREATEST = 1200
ARGUMENT = 999
PREFIX = ("fx", "fy")
KINDS = ("fx", "fy", "xfx", "xfy", "yfx", "xf", "yf")

STANDARD = (
    (1200, "xfx", ":- -->"),
    (1200, "fx", ":-"),
    (1100, "xfy", ";"),
    (1050, "xfy", "-> *->"),
    (900, "fy", "\\+"),
    (700, "xfx", "= \\= == \\== @< @> @=< @>= is =:= =\\= < > =< >= =.."),
    (500, "yfx", "+ - /\\ \\/ xor"),
    (400, "yfx", "* / // div mod rem << >>"),
    (200, "xfx", "**"),
    (200, "xfy", "^"),
    (200, "fy", "- + \\"),
)


def standard():
    """Return the table of the usual operators."""
    return sorted([(priority, kind, name) for priority, kind, names in STANDARD for name in names.split()])


def with_operator(table, priority, kind, name):
    """Return a table in which a name has this operator in the place of its one of the same sort."""
    demand_table(table)
    if not is_integer(priority) or not 0 <= priority <= GREATEST:
        raise NoOperator("priority")
    if not _is_kind(kind):
        raise NoOperator("kind")
    if not _is_operator_name(name):
        raise NoOperator("name")
    place = _place_of(kind, name)
    items = [item for item in table if _place_of(item[1], item[2]) != place]
    if priority > 0:
        items.append((priority, kind, name))
    return sorted(items)


def demand_table(table):
    """Raise NoTable for what is no table."""
    if not isinstance(table, (list, tuple)):
        raise NoTable(-1)
    seen = {}
    for at, item in enumerate(table):
        if not _is_item(item) or _place_of(item[1], item[2]) in seen:
            raise NoTable(at)
        seen[_place_of(item[1], item[2])] = True


def _is_item(item):
    if not isinstance(item, tuple) or len(item) != 3:
        return False
    priority, kind, name = item
    if not is_integer(priority) or not 1 <= priority <= GREATEST:
        return False
    return _is_kind(kind) and _is_operator_name(name)


def _is_kind(kind):
    return isinstance(kind, str) and kind in KINDS


def _is_operator_name(name):
    return is_atom(name) and is_name(name)


def _place_of(kind, name):
    """What no two items of a table may have in common."""
    return (kind in PREFIX, name)


def prefix_operators(table):
    """A dict from the names of prefix operators to tuples (priority, kind)."""
    return {name: (priority, kind) for priority, kind, name in table if kind in PREFIX}


def other_operators(table):
    """A dict from the names of infix and postfix operators to tuples (priority, kind)."""
    found = {name: (priority, kind) for priority, kind, name in table if kind not in PREFIX}
    found[","] = (1000, "xfy")
    return found


def bound_of(priority, letter):
    """The bound of an operand, by the letter of the operator's kind that stands for it."""
    return priority if letter == "y" else priority - 1
