"""Terms: what they are, their parts, and how they are built anew.

No function here calls itself: terms may be deeper than Python lets calls be.
"""

from hornmill.errors import BadTerm

# The kinds of parts, numbered as THE ORDER of terms has them.
VARIABLE = 0
INTEGER = 1
ATOM = 2
COMPOUND = 3

MOST_SIGNS = 40
MOST_ARGUMENTS = 8
BARRED_SIGN = 37
# The least integer that has 301 digits.
TOO_GREAT = (10 ** 60) ** 5


def is_integer(thing):
    """Tell whether anything is an integer; True and False are none."""
    return isinstance(thing, int) and not isinstance(thing, bool)


def is_sign(sign):
    """Tell whether a sign may stand in an atom."""
    return " " <= sign <= "~" and ord(sign) != BARRED_SIGN


def is_atom(thing):
    """Tell whether anything is an atom."""
    return isinstance(thing, str) and len(thing) <= MOST_SIGNS and all([is_sign(sign) for sign in thing])


def is_number(thing):
    """Tell whether anything is the number of a variable."""
    return is_integer(thing) and thing >= 0


def is_term(thing):
    """Tell whether anything is a term."""
    waiting = [thing]
    while waiting:
        part = waiting.pop()
        if not _is_part(part):
            return False
        waiting.extend(arguments_of(part))
    return True


def _is_part(thing):
    """Tell whether anything is a part of a term, whatever its arguments are."""
    if not isinstance(thing, tuple):
        return is_atom(thing) or (is_integer(thing) and -TOO_GREAT < thing < TOO_GREAT)
    if len(thing) == 1:
        return is_number(thing[0])
    return 2 <= len(thing) <= MOST_ARGUMENTS + 1 and is_atom(thing[0])


def demand_term(term):
    """Raise BadTerm for what is no term."""
    if not is_term(term):
        raise BadTerm(term)


def is_variable(part):
    """Tell whether a term is a variable."""
    return isinstance(part, tuple) and len(part) == 1


def arguments_of(part):
    """The arguments of a compound; other terms have none."""
    return part[1:] if isinstance(part, tuple) else ()


def parts_of(term):
    """The parts of a term from the left, each compound ahead of its arguments."""
    found = []
    waiting = [term]
    while waiting:
        part = waiting.pop()
        found.append(part)
        waiting.extend(arguments_of(part)[::-1])
    return found


def head_of(part):
    """What a part is without its arguments; heads compare as THE ORDER asks."""
    if isinstance(part, str):
        return (ATOM, part)
    if not isinstance(part, tuple):
        return (INTEGER, part)
    if is_variable(part):
        return (VARIABLE, part[0])
    return (COMPOUND, len(part) - 1, part[0])


def folded(row):
    """The term whose parts from the left a row tells.

    A leaf is told as (leaf, 0), a compound as (name, number of its arguments).
    """
    done = []
    for what, many in reversed(row):
        if many == 0:
            done.append(what)
        else:
            inner = done[:-many - 1:-1]
            del done[-many:]
            done.append((what, *inner))
    return done[0]


def replaced(term, table):
    """The term with table[k] for each variable (k,) that the table has, all at once."""
    row = []
    for part in parts_of(term):
        if is_variable(part):
            row.append((table.get(part[0], part), 0))
        elif isinstance(part, tuple):
            row.append((part[0], len(part) - 1))
        else:
            row.append((part, 0))
    return folded(row)


def numbers_in(term):
    """The numbers of the variables of what is known to be a term, by first occurrence."""
    seen = {}
    for part in parts_of(term):
        if is_variable(part):
            seen[part[0]] = True
    return list(seen)


def size_of(term):
    """The number of the parts of a term."""
    demand_term(term)
    return len(parts_of(term))


def depth_of(term):
    """The depth of a term."""
    demand_term(term)
    depth = 0
    layer = [term]
    while layer:
        depth += 1
        layer = [inner for part in layer for inner in arguments_of(part)]
    return depth


def variables_of(term):
    """The numbers of the variables of a term, each once, by first occurrence."""
    demand_term(term)
    return numbers_in(term)


def renumbered(term):
    """The term with 0, 1, .. for its variables, by first occurrence."""
    demand_term(term)
    return replaced(term, {k: (place,) for place, k in enumerate(numbers_in(term))})
